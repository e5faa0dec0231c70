import PyProof.Rows.All
import Wide.All
import OpenK.AllK
import Wide.FinOn
import Lean
import PyProof.EqAt
import PyProof.EqKinds
import PyProof.TupleCall
import PySem.Syntax
import PySem.Builtin.Int.W1All
import PySem.Eval
import PyProof.P3Eq
import PyProof.NeData
import PyProof.Rows.IntBool
import PyProof.FString5
import PyProof.StrWalks
import PyProof.ExcArgs
import PyProof.RulesAs
import PyProof.RulesDel
import KE.KTryMore
import PyProof.ZipIter
import PyProof.EnumStmt
import PyProof.ListRange
import PyProof.TupleOfSeq
import PyProof.ConsumeS
import PyProof.Rows.MinMaxGenD
import PyProof.Rows.RuleM_int
import KE.KRevSl
import PyProof.SetNew
import PyProof.Rows.SetFrom
import PyProof.TupleKey
import PyProof.FactsAll.NoneType
import KE.KSortTup
import PyProof.Rows.CallKwBuiltin
import PyProof.DictRoadsH
import PyProof.DictWalks
import KE.KDictList
import PyProof.Rows.SortStr
import KE.KUnpack
import KE.KLam
import PySem.Challenge.RW_switchkinds_k74_racks_refused
open PySem renaming wpAny_bind->ae,wpAny_pure->af
open PySem.Heap renaming get?_push_of_some->ag,get?_push_size->ah,lt_size->ai,size_push->aj
open Nat renaming le_refl->ak,lt_of_lt_of_le->bh,ne_of_lt->bj,zero_le->bu
open List renaming replicate->ao,length_map->aq,mem_map->au,mem_cons->av,size_toArray->ax,getElem?_eq_some_iff->ay,getElem?_set_ne->bd,getElem?_set_self->bn,getElem?_append_right->bo,length_append->bq,length_cons->br,mem_append_right->bt,getElem?_append_left->bv,getD_eq_getElem?_getD->bw
open Bool renaming and_eq_true->aw,false_eq_true->az,false_ne_true->bg
open False renaming elim->ba
theorem zBd {α β:Type} {o:Option α} {f:α->Option β} {b:β} (h:o.bind f=some b): ∃ a,o=some a/\f a=some b:=Option.bind_eq_some_iff.mp h
theorem zMd {α β:Type} {o:Option α} {f:α->β} {b:β} (h:o.map f=some b): ∃ a,o=some a/\f a=b:=Option.map_eq_some_iff.mp h
theorem zAd {α:Type} {l:List α} {p:α->Bool} (h:l.all p=true): ∀ x,x∈l->p x=true:=List.all_eq_true.mp h
theorem zPd {m n:Nat} (h:m<n):m∈List.range n:=List.mem_range.mpr h
theorem zRd {m n:Nat} (h:m∈List.range n):m<n:=List.mem_range.mp h
set_option Elab.async false
set_option linter.all false
set_option maxRecDepth 100000
namespace SK
open PySem PySem.W PyProof.Rows PySem.Calls
noncomputable def aI9 (tb:String->Option Builtin) (p:Program) (w:World) (m:Nat) (ann:Option Value) (n:Nat):SharedT->Thread->Option SharedT:=
 Nat.rec (fun _ _=>none) (fun _ ih s t=>match through t with
  | true=>some s
  | false=>match stepOk m ann t with
   | false=>none
   | true=>match stepT (denote tb) p w s t with
    | some r=>ih r.1 r.2
    | none=>none) n
theorem kC {tb:String->Option Builtin} {p:Program} {w:World} {m:Nat} {ann:Option Value}: ∀ (n:Nat) (s s':SharedT) (t:Thread),aI9 tb p w m ann n s t=some s'->topRun tb p w m ann n s.abs t=some s'.abs
 | 0,_,_,_,h=>nomatch h
 | n+1,s,s',t,h=>by
  have h:(match through t with
   | true=>some s
   | false=>match stepOk m ann t with
    | false=>none
    | true=>match stepT (denote tb) p w s t with
     | some r=>aI9 tb p w m ann n r.1 r.2
     | none=>none)=some s':=h
  unfold topRun
  cases ht:through t with
  | true=>rw [ht] at h;cases h;rfl
  | false=>
   rw [ht] at h
   cases hk:stepOk m ann t with
   | false=>rw [hk] at h;cases h
   | true=>
    rw [hk] at h
    cases hs:stepT (denote tb) p w s t with
    | none=>rw [hs] at h;cases h
    | some r=>obtain⟨s₂,t₂⟩:=r;rw [hs] at h;rw [stepT_spec hs];exact kC n _ _ _ h
noncomputable def BTl:Nat->List Obj->BT
 | 0,_=> .nil
 | n+1,l=>match l with
  | []=> .nil
  | v::r=> .node v (BTl n (ev true r)) (BTl n (ev false r))
where
 ev:Bool->List Obj->List Obj
 | _,[]=>[]
 | true,v::r=>v::ev false r
 | false,_::r=>ev true r
noncomputable def bt0 (P:Params):BT:=BTl 12 (boot_heap P).objs.toList
noncomputable def sT0 (P:Params) (os:OsState):SharedT:=⟨bt0 P,(boot_heap P).objs.size,(boot_heap P).life, #[],boot_drawn,boot_toks,os⟩
theorem aEq (P:Params):absHeap (bt0 P) (boot_heap P).objs.size (boot_heap P).life=boot_heap P:=by kernel_rfl
theorem aAj (P:Params):(boot_heap P).isNs mainGlobals=true:=by kernel_rfl
noncomputable def aAk (p q:Program) (loose:List Str) (Xt:Shared->Bool) {α:Type} (Yf:Shared->α) (P:Params) (s:Shared):=
 (staticsOk (importedModules p.main.body) (boot_heap P) s.heap&&namesBound p s.heap&&gensDone s&&laidKept (boot_heap P) s.heap,openSeen q loose (importedModules p.main.body) Xt true s,Yf s)
noncomputable def aLf (p:Program) (N:Nat) (w:World) (os:OsState):Option SharedT:=aI9 treeTable p w (boot_heap w.params).objs.size ((boot_heap w.params).nsMap mainGlobals "__annotations__") N (sT0 w.params os) (topStub p)
theorem left_tree {p q:Program} {loose:List Str} {Xt:Shared->Bool} {α:Type} {Yf:Shared->α} {Ya:World->α} {N:Nat}
  (e:opening p=plainProg p.main.scope.names) (hN:Nat.ble 600 N=true) (f: ∀ s,fenceModules? p s=some s)
  (hk: ∀ w os,(aLf p N w os).map (fun s=>aAk p q loose Xt Yf w.params s.abs)=some (true,openGood q loose,Ya w)):LeftO p q loose Xt Yf Ya N:=fun w=>by
 obtain⟨s0,b1,b2⟩:=zMd (boot_open e hN f w)
 obtain⟨h,gs,d,k,os⟩:=s0
 obtain⟨rfl,rfl,rfl,rfl⟩:h=boot_heap w.params/\gs=Array.mk []/\d=boot_drawn/\k=boot_toks:=by simpa using b2
 obtain⟨s,r,l⟩:=zMd (hk w os)
 obtain⟨l1,l2,l3⟩:_/\_/\_:=by simpa only [aAk,Prod.mk.injEq] using l
 have r':=kC _ _ _ _ r
 have h0:(sT0 w.params os).abs=⟨boot_heap w.params,Array.mk [],boot_drawn,boot_toks,os⟩:=by
  show(⟨absHeap (bt0 w.params) (boot_heap w.params).objs.size (boot_heap w.params).life, #[],boot_drawn,boot_toks,os⟩:Shared)=_
  rw [aEq]
 rw [h0] at r'
 have t:topFrom treeTable p w N ⟨boot_heap w.params,Array.mk [],boot_drawn,boot_toks,os⟩=some s.abs:=by
  unfold topFrom
  dsimp only
  rw [aAj,r']
  show(match staticsOk (importedModules p.main.body) (boot_heap w.params) s.abs.heap&&namesBound p s.abs.heap&&gensDone s.abs&&laidKept (boot_heap w.params) s.abs.heap with | true=>_ | false=>_)=_
  rw [l1]
 unfold openEnds
 rw [b1]
 show(topFrom treeTable p w N _).map _=_
 rw [t]
 exact congrArg some (Prod.ext l2 l3)
universe u
noncomputable def kt {α:Sort u} (_:α):Bool:=true
noncomputable def q1 (p q:Program) (N:Nat) (c:WRecords) (a:List Addr) (w:World) (os:OsState):=(aLf p N w os).map fun s=>aAk p q [] (fun s=>xlAt q [] s&&recOk c s) (fun s=>a.map s.heap.get?) w.params s.abs
theorem tg:kt q1=true:=by k_qdec
end SK
set_option maxHeartbeats 0
namespace L2
open PySem
noncomputable def defArgs (s:Stmt):Arguments:=match s with
 | .FunctionDef _ a _ _ _ _ _ _ _ _=>a
 | _=>{ posonlyargs:=[],args:=[],vararg:=none,kwonlyargs:=[],kw_defaults:=[],kwarg:=none,defaults:=[] }
noncomputable def defBody (s:Stmt):List Stmt:=match s with
 | .FunctionDef _ _ b _ _ _ _ _ _ _=>b
 | _=>[]
noncomputable def defScope (s:Stmt):Scope:=match s with
 | .FunctionDef _ _ _ _ _ _ sc _ _ _=>sc
 | _=>{ kind:= .function,names:=[],isGenerator:=false,isCoroutine:=false }
end L2
namespace SK.k74
open PySem
noncomputable def top (i:Nat):Stmt:=PySem.Challenge.pw_switchkinds_k74_racks_refused.main.body.getD i (.Pass ⟨0,0,0,0⟩)
noncomputable def met (i j:Nat):Stmt:=(match top i with | .ClassDef _ _ _ b _ _ _ _ _ _ _=>b | _=>[]).getD j (.Pass ⟨0,0,0,0⟩)
noncomputable abbrev fm (st:Stmt) (x q m:Str) (t c:Nat):Obj:={ cls:= .type "function",data:= .func { name:=x,qualname:=q,params:=L2.defArgs st,body:= .stmts (L2.defBody st),scope:=L2.defScope st,globals:=3,closure:=[],defaults:= .none,kwdefaults:= .none,pyModule:= .str m t,code:= .ref c } }
noncomputable abbrev en (P:Params) (k:Str) (t:Nat) (v:Value):DictEntry:=⟨PyData.keyHash P k, .str k t,v⟩
noncomputable abbrev fo (st:Stmt) (x m:Str) (t c:Nat):Obj:={ cls:= .type "function",data:= .func { name:=x,qualname:=x,params:=L2.defArgs st,body:= .stmts (L2.defBody st),scope:=L2.defScope st,globals:=3,closure:=[],defaults:= .none,kwdefaults:= .none,pyModule:= .str m t,code:= .ref c } }
noncomputable abbrev co (vs:Array Value):Obj:={ cls:= .type "code",data:= .fields vs }
noncomputable abbrev cC (x:Str) (a l n r e:Nat) (u v w:Value):Obj:=co #[.str x a, .str x (a+1), .str "/claim/cut.py" (a+2), .int l 0, .int n 0, .int 0 0, .int 0 0, .int 3 0, .ref r, .bool true, .int 181 0, .ref (r+1), .none,u,v,w, .int e 0, .int l 0, .str "/claim/cut.py" (e+1)]
noncomputable abbrev cA (x:Str) (a l n r e:Nat):Obj:=cC x a l n r e .none .none (.ref (r+2))
noncomputable abbrev cB (x:Str) (a l n r e:Nat):Obj:=cC x a l n r e (.ref (r+2)) (.ref (r+3)) (.ref (r+4))
noncomputable abbrev cK (x:Str) (f c ns s a b:Nat):Obj:={ cls:= .type "type",data:= .cls { name:=x,bases:=[.ref c],mro:=[.ref f, .ref c, .type "ValueError", .type "Exception", .type "BaseException", .type "object"],ns:=ns,qualname:=x },slots:= #[some (.ref s),none,some (.str x a),some (.str x b),some (.builtin "ValueError.__new__"),some (.bool true)] }
noncomputable abbrev dK (P:Params) (m:Str) (q a l r:Nat):Obj:={ cls:= .type "dict",data:= .dict #[en P "__module__" a (.str m q),en P "__firstlineno__" (a+4) (.int l (a+3)),en P "__static_attributes__" (a+5) (.ref r),en P "__doc__" (a+6) .none] 2 }
noncomputable def kK:Params->PySem.W.Frag:=fun P=>[
(3,{ cls:= .type "dict",data:= .dict #[en P "__name__" 165 (.str "law_switchkinds_k74_racks_refused" 620),en P "__doc__" 166 .none,en P "__package__" 167 .none,en P "__loader__" 168 (.builtin "__main__.__loader__#opaque"),en P "__spec__" 169 .none,en P "__annotations__" 170 (.ref 6),en P "__builtins__" 171 (.ref 4),en P "__file__" 173 (.str "/claim/cut.py" 172),en P "__cached__" 174 .none,en P "_wall" 193 (.ref 21),en P "SwitchError" 213 (.ref 31),en P "NoSwitch" 229 (.ref 44),en P "NoName" 245 (.ref 56),en P "NoMove" 261 (.ref 68),en P "Unlike" 277 (.ref 80),en P "NoSums" 293 (.ref 92),en P "NoText" 309 (.ref 104),en P "NoTerm" 325 (.ref 116),en P "NoLabel" 341 (.ref 128),en P "NoBack" 357 (.ref 140),en P "MOST_NAMES" 361 (.int 4 360),en P "is_whole" 368 (.ref 149),en P "is_whole_below" 376 (.ref 156),en P "are_whole_below" 382 (.ref 161),en P "is_many" 389 (.ref 168),en P "is_row" 398 (.ref 175),en P "how_many_settings" 405 (.ref 182),en P "is_switch" 414 (.ref 189),en P "check_switch" 421 (.ref 196),en P "check_alike" 429 (.ref 203),en P "turned" 435 (.ref 208),en P "both" 441 (.ref 213),en P "either" 447 (.ref 218),en P "unlike" 453 (.ref 223),en P "LONGEST_LABEL" 457 (.int 4 456),en P "is_label" 463 (.ref 228),en P "check_label" 470 (.ref 235),en P "joined" 479 (.ref 242),en P "Rack" 619 (.ref 348),en P "_law_cell" 629 (.ref 359),en P "_law_pick" 639 (.ref 366),en P "_law_class" 648 (.ref 373),en P "_law_told" 656 (.ref 380),en P "law" 670 (.ref 387)] 44 }),
(20,cB "_wall" 187 1 1 15 191),
(21,fo (top 0) "_wall" "__main__" 164 20),
(30,{ cls:= .type "dict",data:= .dict #[en P "__module__" 203 (.str "switchkinds.errors" 194),en P "__firstlineno__" 207 (.int 5 206),en P "__static_attributes__" 208 (.ref 29),en P "__weakref__" 210 (.ref 32),en P "__doc__" 211 .none] 3 }),
(31,{ cls:= .type "type",data:= .cls { name:="SwitchError",bases:=[.type "ValueError"],mro:=[.ref 31, .type "ValueError", .type "Exception", .type "BaseException", .type "object"],ns:=30,qualname:="SwitchError",subclasses:=[.ref 44, .ref 56, .ref 68, .ref 80, .ref 92, .ref 104, .ref 116, .ref 128, .ref 140] },slots:= #[some (.ref 22),none,some (.str "SwitchError" 196),some (.str "SwitchError" 204),some (.builtin "ValueError.__new__"),some (.bool true)] }),
(32,{ cls:= .type "getset_descriptor",data:= .fields #[.str "__weakref__" 209, .ref 31, .builtin "ExceptionGroup.__weakref__", .none] }),
(43,dK P "switchkinds.errors" 194 221 7 42),
(44,cK "NoSwitch" 44 31 43 35 214 222),
(55,dK P "switchkinds.errors" 194 237 9 54),
(56,cK "NoName" 56 31 55 47 230 238),
(67,dK P "switchkinds.errors" 194 253 11 66),
(68,cK "NoMove" 68 31 67 59 246 254),
(79,dK P "switchkinds.errors" 194 269 13 78),
(80,cK "Unlike" 80 31 79 71 262 270),
(91,dK P "switchkinds.errors" 194 285 15 90),
(92,cK "NoSums" 92 31 91 83 278 286),
(103,dK P "switchkinds.errors" 194 301 17 102),
(104,cK "NoText" 104 31 103 95 294 302),
(115,dK P "switchkinds.errors" 194 317 19 114),
(116,cK "NoTerm" 116 31 115 107 310 318),
(127,dK P "switchkinds.errors" 194 333 21 126),
(128,cK "NoLabel" 128 31 127 119 326 334),
(139,dK P "switchkinds.errors" 194 349 23 138),
(140,cK "NoBack" 140 31 139 131 342 350),
(148,cB "is_whole" 362 27 1 143 366),
(149,fo (top 14) "is_whole" "switchkinds.wholes" 358 148),
(155,cB "is_whole_below" 369 29 2 150 374),
(156,fo (top 15) "is_whole_below" "switchkinds.wholes" 358 155),
(160,cA "are_whole_below" 377 31 2 157 380),
(161,fo (top 16) "are_whole_below" "switchkinds.wholes" 358 160),
(167,cB "is_many" 383 33 1 162 387),
(168,fo (top 17) "is_many" "switchkinds.wholes" 358 167),
(174,cB "is_row" 390 35 3 169 396),
(175,fo (top 18) "is_row" "switchkinds.wholes" 358 174),
(181,cB "how_many_settings" 399 37 1 176 403),
(182,fo (top 19) "how_many_settings" "switchkinds.wholes" 358 181),
(188,cB "is_switch" 408 40 1 183 412),
(189,fo (top 21) "is_switch" "switchkinds.switches" 406 188),
(195,cB "check_switch" 415 44 1 190 419),
(196,fo (top 22) "check_switch" "switchkinds.switches" 406 195),
(202,cB "check_alike" 422 47 2 197 427),
(203,fo (top 23) "check_alike" "switchkinds.switches" 406 202),
(207,cA "turned" 430 52 1 204 433),
(208,fo (top 24) "turned" "switchkinds.switches" 406 207),
(212,cA "both" 436 55 2 209 439),
(213,fo (top 25) "both" "switchkinds.switches" 406 212),
(217,cA "either" 442 58 2 214 445),
(218,fo (top 26) "either" "switchkinds.switches" 406 217),
(222,cA "unlike" 448 61 2 219 451),
(223,fo (top 27) "unlike" "switchkinds.switches" 406 222),
(227,cA "is_label" 458 66 1 224 461),
(228,fo (top 30) "is_label" "switchkinds.racks" 454 227),
(234,cB "check_label" 464 70 1 229 468),
(235,fo (top 31) "check_label" "switchkinds.racks" 454 234),
(241,cB "joined" 471 73 3 236 477),
(242,fo (top 32) "joined" "switchkinds.racks" 454 241),
(255,co #[.str "__init__" 492, .str "Rack.__init__" 493, .str "/claim/cut.py" 494, .int 83 0, .int 1 0, .int 0 0, .int 0 0, .int 3 0, .ref 250, .bool true, .int 181 0, .ref 251, .none, .ref 252, .ref 253, .ref 254, .int 496 0, .int 83 0, .str "/claim/cut.py" 497]),
(256,fm (met 33 0) "__init__" "Rack.__init__" "switchkinds.racks" 454 255),
(262,co #[.str "set_to" 499, .str "Rack.set_to" 500, .str "/claim/cut.py" 501, .int 88 0, .int 3 0, .int 0 0, .int 0 0, .int 3 0, .ref 257, .bool true, .int 181 0, .ref 258, .none, .ref 259, .ref 260, .ref 261, .int 505 0, .int 88 0, .str "/claim/cut.py" 506]),
(263,fm (met 33 1) "set_to" "Rack.set_to" "switchkinds.racks" 454 262),
(269,co #[.str "do" 508, .str "Rack.do" 509, .str "/claim/cut.py" 510, .int 94 0, .int 4 0, .int 0 0, .int 0 0, .int 3 0, .ref 264, .bool true, .int 181 0, .ref 265, .none, .ref 266, .ref 267, .ref 268, .int 515 0, .int 94 0, .str "/claim/cut.py" 516]),
(270,fm (met 33 2) "do" "Rack.do" "switchkinds.racks" 454 269),
(276,co #[.str "put" 518, .str "Rack.put" 519, .str "/claim/cut.py" 520, .int 99 0, .int 3 0, .int 0 0, .int 0 0, .int 3 0, .ref 271, .bool true, .int 181 0, .ref 272, .none, .ref 273, .ref 274, .ref 275, .int 525 0, .int 99 0, .str "/claim/cut.py" 526]),
(277,fm (met 33 3) "put" "Rack.put" "switchkinds.racks" 454 276),
(283,co #[.str "switch_of" 528, .str "Rack.switch_of" 529, .str "/claim/cut.py" 530, .int 106 0, .int 2 0, .int 0 0, .int 0 0, .int 3 0, .ref 278, .bool true, .int 181 0, .ref 279, .none, .ref 280, .ref 281, .ref 282, .int 533 0, .int 106 0, .str "/claim/cut.py" 534]),
(284,fm (met 33 4) "switch_of" "Rack.switch_of" "switchkinds.racks" 454 283),
(290,co #[.str "take" 536, .str "Rack.take" 537, .str "/claim/cut.py" 538, .int 112 0, .int 2 0, .int 0 0, .int 0 0, .int 3 0, .ref 285, .bool true, .int 181 0, .ref 286, .none, .ref 287, .ref 288, .ref 289, .int 542 0, .int 112 0, .str "/claim/cut.py" 543]),
(291,fm (met 33 5) "take" "Rack.take" "switchkinds.racks" 454 290),
(297,co #[.str "join" 545, .str "Rack.join" 546, .str "/claim/cut.py" 547, .int 117 0, .int 5 0, .int 0 0, .int 0 0, .int 3 0, .ref 292, .bool true, .int 181 0, .ref 293, .none, .ref 294, .ref 295, .ref 296, .int 554 0, .int 117 0, .str "/claim/cut.py" 555]),
(298,fm (met 33 6) "join" "Rack.join" "switchkinds.racks" 454 297),
(304,co #[.str "turn" 557, .str "Rack.turn" 558, .str "/claim/cut.py" 559, .int 123 0, .int 2 0, .int 0 0, .int 0 0, .int 3 0, .ref 299, .bool true, .int 181 0, .ref 300, .none, .ref 301, .ref 302, .ref 303, .int 563 0, .int 123 0, .str "/claim/cut.py" 564]),
(305,fm (met 33 7) "turn" "Rack.turn" "switchkinds.racks" 454 304),
(311,co #[.str "labels" 566, .str "Rack.labels" 567, .str "/claim/cut.py" 568, .int 128 0, .int 1 0, .int 0 0, .int 0 0, .int 3 0, .ref 306, .bool true, .int 181 0, .ref 307, .none, .ref 308, .ref 309, .ref 310, .int 570 0, .int 128 0, .str "/claim/cut.py" 571]),
(312,fm (met 33 8) "labels" "Rack.labels" "switchkinds.racks" 454 311),
(316,co #[.str "like" 573, .str "Rack.like" 574, .str "/claim/cut.py" 575, .int 131 0, .int 2 0, .int 0 0, .int 0 0, .int 3 0, .ref 313, .bool true, .int 181 0, .ref 314, .none, .none, .none, .ref 315, .int 576 0, .int 131 0, .str "/claim/cut.py" 577]),
(317,fm (met 33 9) "like" "Rack.like" "switchkinds.racks" 454 316),
(323,co #[.str "back" 579, .str "Rack.back" 580, .str "/claim/cut.py" 581, .int 135 0, .int 1 0, .int 0 0, .int 0 0, .int 3 0, .ref 318, .bool true, .int 181 0, .ref 319, .none, .ref 320, .ref 321, .ref 322, .int 584 0, .int 135 0, .str "/claim/cut.py" 585]),
(324,fm (met 33 10) "back" "Rack.back" "switchkinds.racks" 454 323),
(330,co #[.str "forth" 587, .str "Rack.forth" 588, .str "/claim/cut.py" 589, .int 143 0, .int 1 0, .int 0 0, .int 0 0, .int 3 0, .ref 325, .bool true, .int 181 0, .ref 326, .none, .ref 327, .ref 328, .ref 329, .int 592 0, .int 143 0, .str "/claim/cut.py" 593]),
(331,fm (met 33 11) "forth" "Rack.forth" "switchkinds.racks" 454 330),
(337,co #[.str "counts" 595, .str "Rack.counts" 596, .str "/claim/cut.py" 597, .int 151 0, .int 1 0, .int 0 0, .int 0 0, .int 3 0, .ref 332, .bool true, .int 181 0, .ref 333, .none, .ref 334, .ref 335, .ref 336, .int 599 0, .int 151 0, .str "/claim/cut.py" 600]),
(338,fm (met 33 12) "counts" "Rack.counts" "switchkinds.racks" 454 337),
(344,co #[.str "twin" 602, .str "Rack.twin" 603, .str "/claim/cut.py" 604, .int 154 0, .int 1 0, .int 0 0, .int 0 0, .int 3 0, .ref 339, .bool true, .int 181 0, .ref 340, .none, .ref 341, .ref 342, .ref 343, .int 606 0, .int 154 0, .str "/claim/cut.py" 607]),
(345,fm (met 33 13) "twin" "Rack.twin" "switchkinds.racks" 454 344),
(347,{ cls:= .type "dict",data:= .dict #[en P "__module__" 487 (.str "switchkinds.racks" 454),en P "__firstlineno__" 491 (.int 81 490),en P "__init__" 498 (.ref 256),en P "set_to" 507 (.ref 263),en P "do" 517 (.ref 270),en P "put" 527 (.ref 277),en P "switch_of" 535 (.ref 284),en P "take" 544 (.ref 291),en P "join" 556 (.ref 298),en P "turn" 565 (.ref 305),en P "labels" 572 (.ref 312),en P "like" 578 (.ref 317),en P "back" 586 (.ref 324),en P "forth" 594 (.ref 331),en P "counts" 601 (.ref 338),en P "twin" 608 (.ref 345),en P "__static_attributes__" 612 (.ref 346),en P "__dict__" 614 (.ref 349),en P "__weakref__" 616 (.ref 350),en P "__doc__" 617 .none] 4 }),
(348,{ cls:= .type "type",data:= .cls { name:="Rack",bases:=[.type "object"],mro:=[.ref 348, .type "object"],ns:=347,qualname:="Rack" },slots:= #[none,none,some (.str "Rack" 480),some (.str "Rack" 488),some (.builtin "object.__new__"),some (.bool true)] }),
(349,{ cls:= .type "getset_descriptor",data:= .fields #[.str "__dict__" 613, .ref 348, .builtin "function.__dict__", .builtin "function.__dict__#set"] }),
(350,{ cls:= .type "getset_descriptor",data:= .fields #[.str "__weakref__" 615, .ref 348, .builtin "ExceptionGroup.__weakref__", .none] }),
(358,cB "_law_cell" 622 157 2 353 627),
(359,fo (top 35) "_law_cell" "law_switchkinds_k74_racks_refused" 620 358),
(365,cB "_law_pick" 630 163 3 360 637),
(366,fo (top 36) "_law_pick" "law_switchkinds_k74_racks_refused" 620 365),
(372,cB "_law_class" 640 166 1 367 646),
(373,fo (top 37) "_law_class" "law_switchkinds_k74_racks_refused" 620 372),
(379,cB "_law_told" 649 174 1 374 654),
(380,fo (top 38) "_law_told" "law_switchkinds_k74_racks_refused" 620 379),
(386,cB "law" 657 179 1 381 668),
(387,fo (top 39) "law" "law_switchkinds_k74_racks_refused" 620 386)]
noncomputable def kas:List Addr:=[3,20,21,30,31,32,43,44,55,56,67,68,79,80,91,92,103,104,115,116,127,128,139,140,148,149,155,156,160,161,167,168,174,175,181,182,188,189,195,196,202,203,207,208,212,213,217,218,222,223,227,228,234,235,241,242,255,256,262,263,269,270,276,277,283,284,290,291,297,298,304,305,311,312,316,317,323,324,330,331,337,338,344,345,347,348,349,350,358,359,365,366,372,373,379,380,386,387]
noncomputable def kq:Program:={ PySem.Challenge.pw_switchkinds_k74_racks_refused with main:={ PySem.Challenge.pw_switchkinds_k74_racks_refused.main with body:=[top 0,top 2,top 3,top 4,top 5,top 6,top 7,top 8,top 9,top 10,top 11,top 13,top 14,top 15,top 16,top 17,top 18,top 19,top 21,top 22,top 23,top 24,top 25,top 26,top 27,top 29,top 30,top 31,top 32,top 33,top 35,top 36,top 37,top 38,top 39] } }
theorem lk (w:World) (os:OsState):SK.q1 PySem.Challenge.rw_switchkinds_k74_racks_refused.row.prog kq 7024 (PySem.W.RowW.records (PySem.W.OpenRow.toRowW PySem.Challenge.rw_switchkinds_k74_racks_refused.row)) kas w os=some (true,PySem.W.openGood kq [],(kK w.params).map fun p=>some p.2):=by
 have _:=SK.tg
 rw [PySem.W.Fast.te11324695928718235439]
 kernel_rfl
theorem left:PySem.W.LeftO PySem.Challenge.rw_switchkinds_k74_racks_refused.row.prog kq [] (fun s=>PySem.W.xlAt kq [] s&&PySem.W.recOk (PySem.W.RowW.records (PySem.W.OpenRow.toRowW PySem.Challenge.rw_switchkinds_k74_racks_refused.row)) s) (PySem.W.Hook.obs (PySem.W.kHook kK kas (fun _=>by kernel_rfl))) (PySem.W.Hook.val (PySem.W.kHook kK kas (fun _=>by kernel_rfl))) 7024:=SK.left_tree (by kernel_rfl) (by kernel_rfl) (fun _=>by kernel_rfl) lk
end SK.k74
namespace L2
open PySem PySem.Spec PyProof.Rows
abbrev Key:=Sum Int Str
noncomputable def pS:Key->Value->Bool
 | .inl k,v=>Value.isInt k v
 | .inr x,v=>Value.isStrOf x v
noncomputable def aMg (w:World):Key->Int
 | .inl k=>hashInt k
 | .inr x=>hashStr w x
theorem bA: ∀ {k:Key} {v:Value},pS k v=true->(∃ i t,k=Sum.inl i/\v=Value.int i t)\/(∃ x t,k=Sum.inr x/\v=Value.str x t)
 | .inl i,v,h=>by
  obtain⟨t,e⟩:=Value.isInt_shape (k:=i) (v:=v) h
  exact .inl ⟨i,t,rfl,e⟩
 | .inr x,v,h=>by
  obtain⟨t,e⟩:=Value.isStrOf_shape (x:=x) (v:=v) h
  exact .inr ⟨x,t,rfl,e⟩
theorem rB (i:Int) (t:Tok):pS (.inl i) (.int i t)=true:=by simp [pS,Value.isInt]
theorem rC (x:Str) (t:Tok):pS (.inr x) (.str x t)=true:=by simp [pS,Value.isStrOf]
theorem aEr (a b:Int):decide ((Sum.inl a:Key)=Sum.inl b)=(a==b):=by
 by_cases e:a=b
 ·subst e;simp
 ·have h: ¬ (Sum.inl a:Key)=Sum.inl b:=fun q=>e (Sum.inl.inj q)
  rw [decide_eq_false h]
  exact(beq_eq_false_iff_ne.mpr e).symm
theorem aEs (a b:Str):decide ((Sum.inr a:Key)=Sum.inr b)=decide (a=b):=by
 by_cases e:a=b
 ·subst e;simp
 ·have h: ¬ (Sum.inr a:Key)=Sum.inr b:=fun q=>e (Sum.inr.inj q)
  rw [decide_eq_false h,decide_eq_false e]
theorem aEt (a:Int) (b:Str):decide ((Sum.inl a:Key)=Sum.inr b)=false:=decide_eq_false (fun q=>nomatch q)
theorem aEu (a:Str) (b:Int):decide ((Sum.inr a:Key)=Sum.inl b)=false:=decide_eq_false (fun q=>nomatch q)
noncomputable def bJ (prog:Program) (w:World):PySem.KeyKind prog w Key where
 is:=pS
 hash:=aMg w
 inj:=fun v a b ha hb=>by
  rcases bA ha with ⟨i,t,rfl,rfl⟩ | ⟨x,t,rfl,rfl⟩
  ·rcases bA hb with ⟨j,u,rfl,e⟩ | ⟨y,u,rfl,e⟩
   ·injection e with e1 _;rw [e1]
   ·exact nomatch e
  ·rcases bA hb with ⟨j,u,rfl,e⟩ | ⟨y,u,rfl,e⟩
   ·exact nomatch e
   ·injection e with e1 _;rw [e1]
 byValue:=fun k v h=>by
  rcases bA h with ⟨i,t,rfl,rfl⟩ | ⟨x,t,rfl,rfl⟩<;>rfl
 pyHash:=fun hv h=>by
  rcases bA hv with ⟨i,t,rfl,rfl⟩ | ⟨x,t,rfl,rfl⟩
  ·exact wpAny_pyHash_int h
  ·exact wpAny_pyHash_str h
 eqBool:=fun hu hv h=>by
  rcases bA hu with ⟨i,t,rfl,rfl⟩ | ⟨x,t,rfl,rfl⟩
  ·rcases bA hv with ⟨j,u,rfl,rfl⟩ | ⟨y,u,rfl,rfl⟩
   ·rw [aEr] at h;exact wpAny_eqBool_int h
   ·rw [aEt] at h;exact SeqAt.EqAt.int_str i t y u _ _ _ _ h
  ·rcases bA hv with ⟨j,u,rfl,rfl⟩ | ⟨y,u,rfl,rfl⟩
   ·rw [aEu] at h;exact SeqAt.EqAt.str_int x t j u _ _ _ _ h
   ·rw [aEs] at h;exact wpAny_eqBool_str h
 «strs»:=fun k x t v h=>by
  rcases bA h with ⟨i,u,rfl,e⟩ | ⟨y,u,rfl,e⟩
  ·exact nomatch e
  ·injection e with e1 _
   subst e1
   cases v<;>rfl
theorem mJ (prog:Program) (w:World) (i:Int) (t:Tok):(bJ prog w).is (.inl i) (.int i t)=true:=rB i t
theorem mK (prog:Program) (w:World) (x:Str) (t:Tok):(bJ prog w).is (.inr x) (.str x t)=true:=rC x t
inductive V where
 | non | bl (b:Bool) | int (i:Int) | str (x:Str) | byt (b:Array UInt8) | flt (b:UInt64) | ref (a:Addr) | ty (n:String)
 deriving DecidableEq
noncomputable def aP:V->Value->Prop
 | .non,u=>u=Value.none
 | .bl b,u=>u=Value.bool b
 | .int i,u=> ∃ t,u=Value.int i t
 | .str x,u=> ∃ t,u=Value.str x t
 | .byt b,u=> ∃ t,u=Value.bytes b t
 | .flt b,u=> ∃ t,u=Value.float b t
 | .ref a,u=>u=Value.ref a
 | .ty n,u=>u=Value.type n
noncomputable abbrev aS:List V->List Value->Prop:=Paired aP
theorem aS.length {xs:List V} {us:List Value} (r:aS xs us):xs.length=us.length:=Paired.length r
theorem aS.get: ∀ {xs:List V} {us:List Value} {i:Nat} {x:V},aS xs us->xs[i]? =some x-> ∃ u,us[i]? =some u/\aP x u
 | _,_,_,_, .nil,e=>by simp at e
 | _,_,0,_, .cons r _,e=>by simp at e;subst e;exact⟨_,rfl,r⟩
 | _,_,i+1,x, .cons _ t,e=>by
  obtain⟨u,h1,h2⟩:=aS.get (i:=i) (x:=x) t (by simpa using e)
  exact⟨u,by simpa using h1,h2⟩
theorem aS.set {x:V} {u:Value} (r:aP x u): ∀ {xs:List V} {us:List Value} (i:Nat),aS xs us->aS (xs.set i x) (us.set i u)
 | _,_,_, .nil=> .nil
 | _,_,0, .cons _ t=> .cons r t
 | _,_,i+1, .cons q t=> .cons q (aS.set r i t)
theorem aS.append: ∀ {xs ys:List V} {us ws:List Value},aS xs us->aS ys ws->aS (xs++ys) (us++ws)
 | _,_,_,_, .nil,s=>s
 | _,_,_,_, .cons r t,s=> .cons r (aS.append t s)
theorem aS.take: ∀ {xs:List V} {us:List Value} (n:Nat),aS xs us->aS (xs.take n) (us.take n)
 | _,_,0,_=> .nil
 | _,_,_+1, .nil=> .nil
 | _,_,n+1, .cons r t=> .cons r (aS.take n t)
theorem aS.drop: ∀ {xs:List V} {us:List Value} (n:Nat),aS xs us->aS (xs.drop n) (us.drop n)
 | _,_,0,r=>r
 | _,_,_+1, .nil=> .nil
 | _,_,n+1, .cons _ t=>aS.drop n t
noncomputable def jE:Option V->Option Value->Prop
 | some v,some u=>aP v u
 | none,none=>True
 | _,_=>False
noncomputable def KV {κ:Type}:List (κ×V)->List (κ×Value)->Prop:=Paired fun(p:κ×V) (q:κ×Value)=>p.1=q.1/\aP p.2 q.2
noncomputable def kV:Key->V
 | .inl i=> .int i
 | .inr x=> .str x
inductive HO where
 /-- a list -/
 | lst (xs:List V)
 /-- a tuple (never changes) -/
 | tup (xs:List V)
 /-- a dict whose keys are ints and texts;one whose keys are tuples of ints and texts (the empty one is both) -/
 | dK (kvs:List (Key×V)) | dT (kvs:List (List Key×V))
 /-- a set of ints:its members,its size -/
 | set (S:Int->Bool) (n:Nat)
 /-- an instance of the class at C,its dict at dx,its attributes -/
 | ins (C dx:Addr) (fs:List (Str×V))
 /-- the dict of the instance at x -/
 | own (x:Addr)
 /-- the dict of an exception -/
 | xd (fs:List (Str×V))
 /-- a bound method,f of x -/
 | met (f x:Addr)
 /-- a range object lo,lo+1, .. below hi -/
 | rng (lo hi:Int)
 /-- a thing that is known to the object (the script;a dict while a loop walks it):read,never written while it is so -/
 | frz (o:Obj) (u:HO)
 /-- a code object's table -/
 | tbl (ps:Array Value)
 /-- any other thing,by what is true of its one object (a def of one's own:SetO a S n:=HO.ext fun h=> ..) -/
 | ext (φ:Heap->Prop)
abbrev Hp:=Addr->Option HO
noncomputable def upd (H:Hp) (a:Addr) (o:HO):Hp:=fun b=>if b=a then some o else H b
theorem aC {H:Hp} {a:Addr} {o:HO}:upd H a o a=some o:=by unfold upd;rw [if_pos rfl]
theorem aA {H:Hp} {a b:Addr} {o:HO} (h:b≠a):upd H a o b=H b:=by unfold upd;rw [if_neg h]
theorem aJa {H:Hp} {a b:Addr} {o u:HO} (h:H a=some o) (h':H b=some u) (d:o≠u):a≠b:=by
 intro e;subst e;rw [h] at h';exact d (Option.some.inj h')
theorem aK {H:Hp} {a b:Addr} {o:HO} (h:H a=some o) (h':H b=none):a≠b:=by
 intro e;subst e;rw [h] at h';cases h'
def aEv (h:Heap) (a:Addr):Prop:= ∃ o,h.get? a=some o/\o.dict=none
section
variable (P:Program) (w:World)
noncomputable def ObjOk (H:Hp) (h:Heap) (a:Addr):HO->Prop
 | .lst xs=>xs.length<=sizeLine/\ ∃ (its:List Value) (n:Nat),aS xs its/\h.get? a=some { cls:= .type "list",data:= .seq its.toArray n }
 | .tup xs=>xs.length<=sizeLine/\ ∃ its:List Value,aS xs its/\IsTup h a its.toArray/\aEv h a
 | .dK kvs=>kvs.length<=sizeLine/\(a==sysModules)=false/\ ∃ vs,KV kvs vs/\h.DictOf (bJ P w) a vs
 | .dT kvs=>kvs.length<=sizeLine/\(a==sysModules)=false/\ ∃ xs:List (List Key×Addr×Value),
   Paired (fun(p:List Key×V) (q:List Key×Addr×Value)=>p.1=q.1/\H q.2.1=some (.tup (p.1.map kV))/\aP p.2 q.2.2) kvs xs/\
   ∃ o es ep,h.get? a=some o/\o.ExactDict/\o.data= .dict es ep/\es.toList=xs.map (entryOfKey (tupleKind (bJ P w)))/\(xs.map (·.1)).Nodup
 | .set S n=>h.SetOf (intKind P w) a S n
 | .ins C dx fs=>H dx=some (.own a)/\fs.length<=1000/\dx≠a/\h.get? a=some (PySem.W.instObj C dx)/\
   ∃ mA,h.Ns1 dx mA/\(∀ f,jE (fs.lookup f) (mA f))/\PySem.Within mA (fs.map (·.1))
 | .own _=> ∃ o,h.get? a=some o
 | .xd fs=> ∃ mA,h.Ns1 a mA/\ ∀ f,jE (fs.lookup f) (mA f)
 | .rng lo hi=> ∃ t u v,h.get? a=some { cls:= .type "range",data:= .fields #[.int lo t, .int hi u, .int 1 v] }
 | .frz o u=>h.get? a=some o/\ObjOk H h a u
 | .tbl ps=>h.get? a=some { cls:= .none,data:= .fields ps }
 | .met f x=>h.get? a=some (PySem.W.methodObj (.ref f) (.ref x))
 | .ext φ=>φ h/\(∃ o,h.get? a=some o)/\ ∀ h1 h2:Heap,φ h1->(∀ o,h1.get? a=some o->h2.get? a=some o)->φ h2
def HOk (H:Hp) (h:Heap):Prop:= ∀ a o,H a=some o->ObjOk P w H h a o
end
section
variable {P:Program} {w:World} {H H':Hp} {h h':Heap} {a:Addr} {o:HO}
theorem ObjOk.lt (x:ObjOk P w H h a o):a<h.objs.size:=by
 cases o with
 | lst xs=>obtain⟨_,_,_,_,e⟩:=x;exact ai e
 | tup xs=>obtain⟨_,_,_,p,_⟩:=x;exact p.lt
 | dK kvs=>obtain⟨_,_,_,_,o,_,_,e,_⟩:=x;exact ai e
 | dT kvs=>obtain⟨_,_,_,_,o,_,_,e,_⟩:=x;exact ai e
 | set S n=>obtain⟨o,_,_,_,e,_⟩:=x;exact ai e
 | ins C dx fs=>obtain⟨_,_,_,e,_⟩:=x;exact ai e
 | own y=>obtain⟨_,e⟩:=x;exact ai e
 | xd fs=>obtain⟨_,⟨_,_,_,e,_⟩,_⟩:=x;exact ai e
 | rng lo hi=>obtain⟨_,_,_,e⟩:=x;exact ai e
 | frz ob u=>obtain⟨e,_⟩:=x;exact ai e
 | tbl ps=>exact ai (show h.get? a=some _ from x)
 | met f y=>exact ai (show h.get? a=some _ from x)
 | ext φ=>obtain⟨_,⟨_,e⟩,_⟩:=x;exact ai e
theorem Paired.mapP {α β:Type} {F G:α->β->Prop}: ∀ {l₁:List α} {l₂:List β},Paired F l₁ l₂->(∀ a b,F a b->G a b)->Paired G l₁ l₂
 | _,_, .nil,_=> .nil
 | _,_, .cons r t,f=> .cons (f _ _ r) (Paired.mapP t f)
theorem ObjOk.stay (x:ObjOk P w H h a o) (k: ∀ b u,(b=a\/H b=some (.own a))->h.get? b=some u->h'.get? b=some u)
  (ho: ∀ b,H b=some (.own a)->H' b=some (.own a)) (ht: ∀ b xs,H b=some (.tup xs)->H' b=some (.tup xs)):ObjOk P w H' h' a o:=by
 induction o with
 | lst xs=>obtain⟨z,its,n,r,e⟩:=x;exact⟨z,its,n,r,k _ _ (.inl rfl) e⟩
 | tup xs=>obtain⟨z,its,r,⟨ob,e,c⟩,od,e',d⟩:=x;exact⟨z,its,r,⟨ob,k _ _ (.inl rfl) e,c⟩,od,k _ _ (.inl rfl) e',d⟩
 | dK kvs=>obtain⟨z,y,vs,r,ob,es,ep,e,c⟩:=x;exact⟨z,y,vs,r,ob,es,ep,k _ _ (.inl rfl) e,c⟩
 | dT kvs=>
  obtain⟨z,y,xs,r,ob,es,ep,e,c⟩:=x
  exact⟨z,y,xs,Paired.mapP r fun p q z=>⟨z.1,ht _ _ z.2.1,z.2.2⟩,ob,es,ep,k _ _ (.inl rfl) e,c⟩
 | set S n=>obtain⟨ob,es,ep,t,e,c⟩:=x;exact⟨ob,es,ep,t,k _ _ (.inl rfl) e,c⟩
 | ins C dx fs=>
  obtain⟨d,z,ne,e,mA,⟨od,es,ep,e2,c⟩,r⟩:=x
  exact⟨ho _ d,z,ne,k _ _ (.inl rfl) e,mA,⟨od,es,ep,k _ _ (.inr d) e2,c⟩,r⟩
 | own y=>obtain⟨ob,e⟩:=x;exact⟨ob,k _ _ (.inl rfl) e⟩
 | xd fs=>obtain⟨mA,⟨od,es,ep,e,c⟩,r⟩:=x;exact⟨mA,⟨od,es,ep,k _ _ (.inl rfl) e,c⟩,r⟩
 | rng lo hi=>obtain⟨t,u,v,e⟩:=x;exact⟨t,u,v,k _ _ (.inl rfl) e⟩
 | frz ob u ih=>obtain⟨e,q⟩:=x;exact⟨k _ _ (.inl rfl) e,ih q⟩
 | tbl ps=>
  have e:h.get? a=some { cls:= .none,data:= .fields ps }:=x
  show h'.get? a=some { cls:= .none,data:= .fields ps }
  exact k a _ (.inl rfl) e
 | met f y=>
  have e:h.get? a=some (PySem.W.methodObj (.ref f) (.ref y)):=x
  show h'.get? a=some (PySem.W.methodObj (.ref f) (.ref y))
  exact k a _ (.inl rfl) e
 | ext φ=>obtain⟨p,⟨o,e⟩,st⟩:=x;exact⟨st _ _ p fun o q=>k _ _ (.inl rfl) q,⟨o,k _ _ (.inl rfl) e⟩,st⟩
theorem HOk.lt (x:HOk P w H h) (e:H a=some o):a<h.objs.size:=(x a o e).lt
theorem HOk.fresh (x:HOk P w H h) (e:h.objs.size<=a):H a=none:=by
 cases q:H a with
 | none=>rfl
 | some u=>exact absurd (bh (x.lt q) e) (Nat.lt_irrefl _)
theorem HOk.kept (x:HOk P w H h) (k: ∀ b u,h.get? b=some u->h'.get? b=some u):HOk P w H h':=fun a o e=>
 (x a o e).stay (fun b u _ q=>k b u q) (fun _ q=>q) fun _ _ q=>q
theorem HOk.laid (x:HOk P w H h) (k: ∀ b u,h.get? b=some u->h'.get? b=some u) (hp:h.objs.size<=a) (new:ObjOk P w (upd H a o) h' a o):HOk P w (upd H a o) h':=fun b u e=>by
 have hn:=x.fresh hp
 by_cases hb:b=a
 ·subst hb;rw [aC] at e;cases e;exact new
 ·rw [aA hb] at e
  exact(x b u e).stay (fun c v _ q=>k c v q) (fun c q=>by rw [aA (aK q hn)];exact q) fun c xs q=>by rw [aA (aK q hn)];exact q
end
def Rd (H:Hp) (a:Addr) (u:HO):Prop:=H a=some u\/ ∃ o,H a=some (.frz o u)
theorem Rd.ok {P:Program} {w:World} {H:Hp} {h:Heap} {a:Addr} {u:HO} (r:Rd H a u) (x:HOk P w H h):ObjOk P w H h a u:=by
 rcases r with r | ⟨o,r⟩
 ·exact x a u r
 ·obtain⟨_,q⟩:=x a _ r
  exact q
noncomputable def Mut:Option HO->Prop
 | some (.lst _)=>True
 | some (.dK _)=>True
 | some (.dT _)=>True
 | some (.set _ _)=>True
 | some (.ins _ _ _)=>True
 | some (.ext _)=>True
 | _=>False
section
variable {P:Program} {w:World} {H:Hp} {h h':Heap} {x e:Addr} {o':HO}
theorem HOk.write (ok:HOk P w H h) (mu:Mut (H x)) (he:e=x\/H e=some (.own x)) (k: ∀ b u,b≠e->h.get? b=some u->h'.get? b=some u) (heo: ∃ u,h'.get? e=some u)
  (new:ObjOk P w (upd H x o') h' x o'):HOk P w (upd H x o') h':=fun b u q=>by
 have nown: ∀ c y,H c=some (.own y)->c≠x:=fun c y r z=>by subst z;rw [r] at mu;exact mu
 have ntup: ∀ c xs,H c=some (.tup xs)->c≠x:=fun c xs r z=>by subst z;rw [r] at mu;exact mu
 by_cases hb:b=x
 ·subst hb;rw [aC] at q;cases q;exact new
 ·rw [aA hb] at q
  by_cases hbe:b=e
  ·have q':H b=some (.own x):=by
    rcases he with z | z
    ·exact absurd (hbe.trans z) hb
    ·rw [hbe];exact z
   rw [q] at q';cases q'
   obtain⟨v,hv⟩:=heo
   exact⟨v,by rw [hbe];exact hv⟩
  ·refine(ok b u q).stay (fun c v hc r=>k c v ?_ r) (fun c r=>by rw [aA (nown c b r)];exact r) fun c xs r=>by rw [aA (ntup c xs r)];exact r
   rcases hc with rfl | hc
   ·exact hbe
   ·rintro rfl
    rcases he with z | z
    ·exact nown c b hc z
    ·rw [hc] at z;cases z;exact hb rfl
end
structure Un (fs ex:List Addr) (H H':Hp) (h h':Heap):Prop where
 keep: ∀ b o,h.get? b=some o->H b=none->b∉fs->b∉ex->h'.get? b=some o
 slot: ∀ b o,h.get? b=some o->H b=none->b∈fs->b∉ex-> ∃ sl,h'.get? b=some { o with slots:=sl }
 free: ∀ b o,h.get? b=some o->H b=none->b∉ex->H' b=none
 there: ∀ b o,h.get? b=some o->b∉ex-> ∃ o',h'.get? b=some o'
 tups: ∀ b xs,H b=some (.tup xs)->H' b=some (.tup xs)
 frzs: ∀ b o u,H b=some (.frz o u)->H' b=some (.frz o u)
 tbls: ∀ b ps,H b=some (.tbl ps)-> ∃ more,H' b=some (.tbl (ps++more))
section
variable {fs fs' ex ex':List Addr} {H H1 H2:Hp} {h h1 h2 h':Heap} {a x e:Addr} {o:HO}
theorem Un.any (u:Un fs ex H H1 h h1) {b:Addr} {ob:Obj} (q:h.get? b=some ob) (n:H b=none) (hx:b∉ex): ∃ sl,h1.get? b=some { ob with slots:=sl }:=by
 by_cases hb:b∈fs
 ·exact u.slot b ob q n hb hx
 ·exact⟨ob.slots,u.keep b ob q n hb hx⟩
theorem Un.kept (k: ∀ b u,h.get? b=some u->h'.get? b=some u):Un fs ex H H h h':=
 ⟨fun b ob q _ _ _=>k b ob q,fun b ob q _ _ _=>⟨ob.slots,k b ob q⟩,fun _ _ _ n _=>n,fun b ob q _=>⟨ob,k b ob q⟩,fun _ _ q=>q,fun _ _ _ q=>q,fun _ ps q=>⟨#[],by rw [q];simp⟩⟩
theorem Un.refl:Un fs ex H H h h:=Un.kept fun _ _ q=>q
theorem Un.laid (k: ∀ b u,h.get? b=some u->h'.get? b=some u) (hp:h.objs.size<=a) (hn:H a=none):Un fs ex H (upd H a o) h h' where
 keep:=fun b u q _ _ _=>k b u q
 slot:=fun b u q _ _ _=>⟨u.slots,k b u q⟩
 free:=fun b u q n _=>by rw [aA (bj (bh (ai q) hp))];exact n
 there:=fun b u q _=>⟨u,k b u q⟩
 tups:=fun b xs q=>by rw [aA (aK q hn)];exact q
 frzs:=fun b u xs q=>by rw [aA (aK q hn)];exact q
 tbls:=fun b ps q=>⟨#[],by rw [aA (aK q hn),q];simp⟩
theorem Un.write (mu:Mut (H x)) (he:e=x\/H e=some (.own x)) (k: ∀ b u,b≠e->h.get? b=some u->h'.get? b=some u) (heo: ∃ u,h'.get? e=some u):Un fs ex H (upd H x o) h h':=by
 have hx: ∀ b,H b=none->b≠x:=fun b n z=>by subst z;rw [n] at mu;exact mu
 have hb: ∀ b,H b=none->b≠e:=fun b n z=>by
  subst z
  rcases he with r | r
  ·exact hx b n r
  ·rw [n] at r;cases r
 have hm: ∀ b u,H b=some u-> ¬ Mut (some u)->b≠x:=fun b u q nm z=>by subst z;rw [q] at mu;exact nm mu
 refine⟨fun b u q n _ _=>k b u (hb b n) q,fun b u q n _ _=>⟨u.slots,k b u (hb b n) q⟩,fun b u q n _=>by rw [aA (hx b n)];exact n,fun b u q _=> ?_,
  fun b xs q=>by rw [aA (hm b _ q fun z=>z)];exact q,fun b u xs q=>by rw [aA (hm b _ q fun z=>z)];exact q,fun b ps q=>⟨#[],by rw [aA (hm b _ q fun z=>z),q];simp⟩⟩
 by_cases hbe:b=e
 ·subst hbe;exact heo
 ·exact⟨u,k b u hbe q⟩
end
noncomputable def trk (h:Heap) (H:Hp):List Addr:=(List.range h.objs.size).filter fun a=>(H a).isSome
noncomputable def aEw (h:Heap) (H:Hp):Heap:=PySem.W.hideAll h (trk h H)
theorem rD (h:Heap) (H:Hp):(aEw h H).objs.size=h.objs.size:=PySem.W.hideAll_size _ _
theorem vU {h:Heap} {H:Hp} {b:Addr} {o:Obj} (e:h.get? b=some o) (n:H b=none):(aEw h H).get? b=some o:=
 PySem.W.hideAll_get _ e fun hm=>by
  have q:(H b).isSome=true:=(List.mem_filter.mp hm).2
  rw [n] at q;simp at q
theorem mL {h:Heap} {H:Hp} {b:Addr} {o:Obj} (e:(aEw h H).get? b=some o):h.get? b=some o/\H b=none:=by
 have e':h.get? b=some o:=PySem.W.of_hideAll (trk h H) e
 refine⟨e', ?_⟩
 cases q:H b with
 | none=>rfl
 | some x=>
  have hm:b∈trk h H:=List.mem_filter.mpr ⟨zPd (ai e'),by simp [q]⟩
  have z:(aEw h H).get? b=none:=PySem.W.hideAll_none (trk h H) hm
  rw [z] at e;cases e
noncomputable def aAl (g h:Heap) (L:Addr):List (Addr×Obj):=(List.range h.objs.size).filterMap fun a=>if a=L\/(g.get? a).isSome=true then none else(h.get? a).map fun o=>(a,o)
noncomputable def dW (g h:Heap) (L d:Addr):List (Addr×Obj):=(aAl g h L).filter fun p=>decide (p.1≠d)
structure Mod (K:PySem.W.Frag) (mg:Str->Option Value) (base:Heap):Prop where
 kin:K.In base
 glob:base.Ns mainGlobals mg
 blt: ∃ mb,base.Ns builtinsNs mb/\ ∀ x:Str,x≠"__name__"->mb x=bootBuiltins x
 nolimit:base.NoLimit
structure Cx where
 prog:Program
 w:World
 K:PySem.W.Frag
 mg:Str->Option Value
 base:Heap
 A:Around
 N:List Str
 s₀:Shared
 H₀:Hp
 env:Env
 outer:List Env
 stack:List Env
 ex:List Addr
 fn:Str->Bool
 calm:Bool
 pn:List (Addr×Obj)
 xe:Value->Shared->Prop
noncomputable def frs (l:List Env):List Addr:=l.filterMap (·.frame)
noncomputable abbrev Cx.fs (X:Cx):List Addr:=frs X.outer
def Vis (sc:Scope) (x:Str):Prop:=sc.names.lookup x=some .local\/sc.names.lookup x=some .cell\/sc.names.lookup x=some .free
def Loc (sc:Scope) (x:Str):Prop:=sc.names.lookup x=some .local\/sc.names.lookup x=some .cell
def aMh (env:Env) (h:Heap) (m:Str->Option Value) (x:Str) (u:Value):Prop:=
 (env.kindOf x=some .local/\m x=some u)\/((env.kindOf x=some .cell\/env.kindOf x=some .free)/\ ∃ c,env.cells.lookup x=some c/\h.IsCell c (some u))
structure Cx.Ok (X:Cx):Prop where
 mod:Mod X.K X.mg X.base
 kind:X.env.scope.kind= .function
 glob:X.env.globals=mainGlobals
 blt:X.env.builtins=builtinsNs
 above:X.s₀.heap.objs.size<=X.env.locals
 inj: ∀ x y c,X.env.cells.lookup x=some c->X.env.cells.lookup y=some c->x=y
 has: ∀ x,(X.env.kindOf x=some .cell\/X.env.kindOf x=some .free)-> ∃ c,X.env.cells.lookup x=some c
 cab: ∀ x c,X.fn x=true->X.env.cells.lookup x=some c->X.s₀.heap.objs.size<=c
 hd:X.calm=true->X.A.handled=none
 frames:X.A.frames=some X.stack
 stk:X.stack=X.outer\/(X.stack=X.env::X.outer/\X.env.frame=some X.env.locals)
 exf: ∀ b∈X.ex,b≠X.env.locals/\ ∀ x c,X.env.cells.lookup x=some c->c≠b
 bs: ∀ b o,X.base.get? b=some o->X.s₀.heap.get? b=some o/\X.H₀ b=none
 bsz:X.base.objs.size<=X.s₀.heap.objs.size
 noex: ∀ b o,X.base.get? b=some o->b∉X.ex
 exfs: ∀ b∈X.ex,b∉X.fs
 funs:X.s₀.heap.FunFrames X.base X.outer
 frf: ∀ b∈X.fs,X.H₀ b=none
structure Inv (X:Cx) (pins:List (Addr×Obj)) (σ:List (Option V)) (H:Hp) (s:Shared):Prop where
 ok:X.Ok
 os:s.os=X.s₀.os
 bare:AllBare s.gens
 base:Un X.fs X.ex X.H₀ H X.s₀.heap s.heap
 loc: ∃ m,s.heap.Ns X.env.locals m/\ ∀ (i:Nat) (x:Str) (v:V),X.N[i]? =some x->σ[i]? =some (some v)->Vis X.env.scope x-> ∃ u,aP v u/\aMh X.env s.heap m x u
 cell: ∀ x c,X.env.cells.lookup x=some c-> ∃ v,s.heap.IsCell c v
 free:H X.env.locals=none
 freeC: ∀ x c,X.env.cells.lookup x=some c->H c=none
 pin: ∀ p∈X.pn++pins,s.heap.get? p.1=some p.2/\H p.1=none/\p.1≠X.env.locals/\p.1∉X.fs/\ ∀ v,p.2.data≠ .cell v
 hok:HOk X.prog X.w H s.heap
 len:σ.length=X.N.length
section
variable {X:Cx} {pins:List (Addr×Obj)} {σ:List (Option V)} {H H':Hp} {s:Shared} {h':Heap}
theorem Cx.Ok.nofr (ok:X.Ok) {b:Addr} {o:Obj} (e:X.base.get? b=some o):b∉X.fs:=fun hb=>by
 have:=(ok.funs.mem hb).1
 rw [e] at this;cases this
theorem Inv.bs (I:Inv X pins σ H s): ∀ b o,X.base.get? b=some o->s.heap.get? b=some o/\H b=none:=fun b o e=>
 ⟨I.base.keep b o (I.ok.bs b o e).1 (I.ok.bs b o e).2 (I.ok.nofr e) (I.ok.noex b o e),I.base.free b o (I.ok.bs b o e).1 (I.ok.bs b o e).2 (I.ok.noex b o e)⟩
theorem Inv.bk (I:Inv X pins σ H s): ∀ b o,X.base.get? b=some o->s.heap.get? b=some o:=fun b o e=>(I.bs b o e).1
theorem Inv.mod (I:Inv X pins σ H s):Mod X.K X.mg X.base:=I.ok.mod
theorem Inv.kIn (I:Inv X pins σ H s):X.K.In s.heap:=I.ok.mod.kin.keeps I.bk
theorem Inv.lt (I:Inv X pins σ H s):X.env.locals<s.heap.objs.size:=let ⟨_,hn,_⟩:=I.loc;hn.lt
theorem Inv.sz (I:Inv X pins σ H s):X.s₀.heap.objs.size<=s.heap.objs.size:=Nat.le_trans I.ok.above (Nat.le_of_lt I.lt)
theorem Inv.nofs (I:Inv X pins σ H s) {a:Addr} (h:s.heap.objs.size<=a):a∉X.fs:=fun hb=>by
 obtain⟨_,o,ho,_⟩:=I.ok.funs.mem hb
 exact absurd (bh (ai ho) (Nat.le_trans I.sz h)) (Nat.lt_irrefl _)
theorem Inv.cne (I:Inv X pins σ H s): ∀ x c,X.env.cells.lookup x=some c->c≠X.env.locals:=fun x c e z=>by
 obtain⟨v,o,ho,hd⟩:=I.cell x c e
 obtain⟨m,⟨o',es,ep,ho',hd',_⟩,_⟩:=I.loc
 rw [z,ho'] at ho;cases ho;rw [hd'] at hd;cases hd
theorem Inv.funs (I:Inv X pins σ H s):s.heap.FunFrames X.base X.outer:=by
 have all: ∀ (l:List Env),(∀ b∈frs l,b∈X.fs)->X.s₀.heap.FunFrames X.base l->s.heap.FunFrames X.base l:=by
  intro l
  induction l with
  | nil=>intro _ _;trivial
  | cons env r ih=>
   intro hs hl
   obtain⟨hk,⟨L,o,hf,hn,ho,hd⟩,hr⟩:=hl
   have hL:L∈X.fs:=hs L (by unfold frs;rw [List.filterMap_cons,hf];exact List.mem_cons_self)
   obtain⟨sl,e⟩:=I.base.slot L o ho (I.ok.frf L hL) hL fun z=>I.ok.exfs L z hL
   exact⟨hk,⟨L,_,hf,hn,e,hd⟩,ih (fun b hb=>hs b (by unfold frs;rw [List.filterMap_cons,hf];exact List.mem_cons_of_mem _ hb)) hr⟩
 exact all X.outer (fun _ hb=>hb) I.ok.funs
theorem Inv.stack (I:Inv X pins σ H s):s.heap.FunFrames X.base X.stack:=by
 rcases I.ok.stk with e | ⟨e,hf⟩
 ·rw [e];exact I.funs
 ·rw [e]
  obtain⟨m,hn,_⟩:=I.loc
  refine .cons (by rw [I.ok.kind];decide) hf hn ?_ I.funs
  exact Heap.get?_none_of_le (Nat.le_trans I.ok.bsz I.ok.above)
theorem Inv.stkSub (I:Inv X pins σ H s): ∀ b∈frs X.stack,b∈X.env.locals::X.fs:=fun b hb=>by
 rcases I.ok.stk with e | ⟨e,hf⟩
 ·rw [e] at hb;exact List.mem_cons_of_mem _ hb
 ·rw [e] at hb
  unfold frs at hb
  rw [List.filterMap_cons,hf] at hb
  exact hb
theorem Inv.stkFree (I:Inv X pins σ H s): ∀ b∈frs X.stack,H b=none:=fun b hb=>by
 rcases av.mp (I.stkSub b hb) with e | hb
 ·rw [e];exact I.free
 ·obtain⟨_,o,ho,_⟩:=I.ok.funs.mem hb
  exact I.base.free b o ho (I.ok.frf b hb) fun z=>I.ok.exfs b z hb
theorem Inv.step {g':Array GenState} {t':Nat} {d':Drawn} {ch:List Addr} (I:Inv X pins σ H s)
  (hch: ∀ b∈ch,(b∈X.ex\/X.s₀.heap.objs.size<=b)/\b≠X.env.locals/\(∀ x c,X.env.cells.lookup x=some c->c≠b)/\ ∀ p∈X.pn++pins,p.1≠b)
  (keep: ∀ b o,b≠X.env.locals->b∉X.fs->b∉ch->s.heap.get? b=some o->H b=none->h'.get? b=some o)
  (slot: ∀ b o,b≠X.env.locals->b∈X.fs->b∉ch->s.heap.get? b=some o->H b=none-> ∃ sl,h'.get? b=some { o with slots:=sl }) (free: ∀ b o,b∉ch->s.heap.get? b=some o->H b=none->H' b=none)
  (there: ∀ b o,b∉ch->s.heap.get? b=some o-> ∃ o',h'.get? b=some o')
  (tups: ∀ b xs,H b=some (.tup xs)->H' b=some (.tup xs)) (frzs: ∀ b o u,H b=some (.frz o u)->H' b=some (.frz o u)) (tbls: ∀ b ps,H b=some (.tbl ps)-> ∃ more,H' b=some (.tbl (ps++more)))
  (ns: ∀ m,s.heap.Ns X.env.locals m->h'.Ns X.env.locals m) (hok:HOk X.prog X.w H' h') (hg:AllBare g'):
  Inv X pins σ H' { s with heap:=h',gens:=g',drawn:=d',toks:=t' }:=by
 have neL: ∀ b o,X.s₀.heap.get? b=some o->b≠X.env.locals:=fun b o e=>bj (bh (ai e) I.ok.above)
 have neC: ∀ b o,X.s₀.heap.get? b=some o->b∉X.ex->b∉ch:=fun b o e hx hb=>by
  rcases(hch b hb).1 with z | z
  ·exact hx z
  ·exact absurd (bh (ai e) z) (Nat.lt_irrefl _)
 have cellK: ∀ x c,X.env.cells.lookup x=some c-> ∀ v,s.heap.IsCell c v->h'.IsCell c v:=fun x c e v ⟨o,ho,hd⟩=>by
  have nch:c∉ch:=fun z=>(hch c z).2.2.1 x c e rfl
  by_cases hc:c∈X.fs
  ·obtain⟨sl,q⟩:=slot c o (I.cne x c e) hc nch ho (I.freeC x c e)
   exact⟨_,q,hd⟩
  ·exact⟨o,keep c o (I.cne x c e) hc nch ho (I.freeC x c e),hd⟩
 refine⟨I.ok,I.os,hg,⟨fun b o e n hb hx=> ?_,fun b o e n hb hx=> ?_,fun b o e n hx=> ?_,fun b o e hx=> ?_,fun b xs e=>tups b xs (I.base.tups b xs e),fun b o xs e=>frzs b o xs (I.base.frzs b o xs e),fun b ps e=> ?_⟩, ?_,fun x c e=> ?_, ?_,fun x c e=> ?_,fun p hp=> ?_,hok,I.len⟩
 ·exact keep b o (neL b o e) hb (neC b o e hx) (I.base.keep b o e n hb hx) (I.base.free b o e n hx)
 ·obtain⟨sl,e1⟩:=I.base.slot b o e n hb hx
  obtain⟨sl',e2⟩:=slot b _ (neL b o e) hb (neC b o e hx) e1 (I.base.free b o e n hx)
  exact⟨sl',e2⟩
 ·obtain⟨o',e1⟩:=I.base.there b o e hx
  exact free b o' (neC b o e hx) e1 (I.base.free b o e n hx)
 ·obtain⟨o',e1⟩:=I.base.there b o e hx
  exact there b o' (neC b o e hx) e1
 ·obtain⟨m1,e1⟩:=I.base.tbls b ps e
  obtain⟨m2,e2⟩:=tbls b _ e1
  exact⟨m1++m2,by rw [e2,Array.append_assoc]⟩
 ·obtain⟨m,hn,hl⟩:=I.loc
  refine⟨m,ns m hn,fun i x v e1 e2 e3=> ?_⟩
  obtain⟨u,r,l⟩:=hl i x v e1 e2 e3
  refine⟨u,r, ?_⟩
  rcases l with l | ⟨k,c,e,z⟩
  ·exact .inl l
  ·exact .inr ⟨k,c,e,cellK x c e _ z⟩
 ·obtain⟨v,z⟩:=I.cell x c e
  exact⟨v,cellK x c e v z⟩
 ·obtain⟨m,⟨o,_,_,ho,_⟩,_⟩:=I.loc
  exact free _ o (fun z=>(hch _ z).2.1 rfl) ho I.free
 ·obtain⟨v,o,ho,hd⟩:=I.cell x c e
  exact free c o (fun z=>(hch c z).2.2.1 x c e rfl) ho (I.freeC x c e)
 ·obtain⟨e,n,ne,nf,d⟩:=I.pin p hp
  have nch:p.1∉ch:=fun z=>(hch p.1 z).2.2.2 p hp rfl
  exact⟨keep p.1 p.2 ne nf nch e n,free p.1 p.2 nch e n,ne,nf,d⟩
theorem Inv.un {t':Nat} (I:Inv X pins σ H s) (u:Un X.fs [] H H' s.heap h') (hok:HOk X.prog X.w H' h'):Inv X pins σ H' { s with heap:=h',toks:=t' }:=by
 obtain⟨m,⟨o,es,ep,ho,r⟩,_⟩:=id I.loc
 obtain⟨sl,hL⟩:=u.any ho I.free (by simp)
 exact I.step (g':=s.gens) (d':=s.drawn) (ch:=[]) (fun _ z=>nomatch z) (fun b o _ hb _ e n=>u.keep b o e n hb (by simp)) (fun b o _ hb _ e n=>u.slot b o e n hb (by simp)) (fun b o _ e n=>u.free b o e n (by simp)) (fun b o _ e=>u.there b o e (by simp)) u.tups u.frzs u.tbls (fun m' hm=>by
  obtain⟨o',es',ep',ho',r'⟩:=hm
  rw [ho] at ho';cases ho'
  exact⟨_,es',ep',hL,r'⟩) hok I.bare
theorem Inv.call {g':Array GenState} {t':Nat} {d':Drawn} {ch:List Addr} (I:Inv X pins σ H s) (u:Un (frs X.stack) ch H H' s.heap h') (hok:HOk X.prog X.w H' h') (hg:AllBare g')
  (hch: ∀ b∈ch,(b∈X.ex\/X.s₀.heap.objs.size<=b)/\b≠X.env.locals/\(∀ x c,X.env.cells.lookup x=some c->c≠b)/\ ∀ p∈X.pn++pins,p.1≠b):
  Inv X pins σ H' { s with heap:=h',gens:=g',drawn:=d',toks:=t' }:=by
 obtain⟨m,⟨o,es,ep,ho,r⟩,_⟩:=id I.loc
 obtain⟨sl,hL⟩:=u.any ho I.free fun z=>(hch _ z).2.1 rfl
 exact I.step (ch:=ch) hch (fun b o hL hb hc e n=>u.keep b o e n (fun z=>(av.mp (I.stkSub b z)).elim hL hb) hc) (fun b o _ _ hc e n=>u.any e n hc) (fun b o hc e n=>u.free b o e n hc) (fun b o hc e=>u.there b o e hc) u.tups u.frzs u.tbls (fun m' hm=>by
  obtain⟨o',es',ep',ho',r'⟩:=hm
  rw [ho] at ho';cases ho'
  exact⟨_,es',ep',hL,r'⟩) hok hg
theorem Inv.turned {t':Nat} {it:Addr} (I:Inv X pins σ H s) (k: ∀ b o,b≠it->s.heap.get? b=some o->h'.get? b=some o) (hn:H it=none) (hL:it≠X.env.locals)
  (h1:it∈X.ex\/X.s₀.heap.objs.size<=it) (h2: ∀ x c,X.env.cells.lookup x=some c->c≠it) (h3: ∀ p∈X.pn++pins,p.1≠it):Inv X pins σ H { s with heap:=h',toks:=t' }:=by
 have nit: ∀ b u,H b=some u->b≠it:=fun b u e z=>by rw [z,hn] at e;cases e
 refine I.step (g':=s.gens) (d':=s.drawn) (ch:=[it]) (fun b hb=> ?_) (fun b o _ _ hc e _=>k b o (fun z=>hc (by simp [z])) e) (fun b o _ _ hc e _=>⟨o.slots,k b o (fun z=>hc (by simp [z])) e⟩) (fun _ _ _ _ n=>n)
  (fun b o hc e=>⟨o,k b o (fun z=>hc (by simp [z])) e⟩) (fun _ _ e=>e) (fun _ _ _ e=>e) (fun b ps e=>⟨#[],by rw [e];simp⟩) (fun m hm=> ?_) (fun b u e=> ?_) I.bare
 ·have e:b=it:=by simpa using hb
  subst e
  exact⟨h1,hL,h2,h3⟩
 ·obtain⟨o,es,ep,ho,r⟩:=hm
  exact⟨o,es,ep,k _ o (Ne.symm hL) ho,r⟩
 ·refine(I.hok b u e).stay (fun c v hc q=>k c v ?_ q) (fun _ q=>q) fun _ _ q=>q
  rcases hc with z | z
  ·rw [z];exact nit b u e
  ·exact nit c _ z
theorem Inv.tok (I:Inv X pins σ H s) (t:Nat):Inv X pins σ H { s with toks:=t }:=I.un (h':=s.heap) (t':=t) Un.refl I.hok
theorem Inv.kept {t':Nat} (I:Inv X pins σ H s) (k: ∀ b u,s.heap.get? b=some u->h'.get? b=some u):Inv X pins σ H { s with heap:=h',toks:=t' }:=I.un (Un.kept k) (I.hok.kept k)
theorem Inv.laid {a:Addr} {o:HO} {t':Nat} (I:Inv X pins σ H s) (k: ∀ b u,s.heap.get? b=some u->h'.get? b=some u) (hp:s.heap.objs.size<=a) (new:ObjOk X.prog X.w (upd H a o) h' a o):
  Inv X pins σ (upd H a o) { s with heap:=h',toks:=t' }:=I.un (Un.laid k hp (I.hok.fresh hp)) (I.hok.laid k hp new)
theorem Inv.write {x e:Addr} {o:HO} {t':Nat} (I:Inv X pins σ H s) (mu:Mut (H x)) (he:e=x\/H e=some (.own x)) (k: ∀ b u,b≠e->s.heap.get? b=some u->h'.get? b=some u) (heo: ∃ u,h'.get? e=some u)
  (new:ObjOk X.prog X.w (upd H x o) h' x o):Inv X pins σ (upd H x o) { s with heap:=h',toks:=t' }:=I.un (Un.write mu he k heo) (I.hok.write mu he k heo new)
theorem Inv.pins_of {pins':List (Addr×Obj)} (I:Inv X pins σ H s) (h: ∀ p∈pins',s.heap.get? p.1=some p.2/\H p.1=none/\p.1≠X.env.locals/\p.1∉X.fs/\ ∀ v,p.2.data≠ .cell v):Inv X pins' σ H s:=
 ⟨I.ok,I.os,I.bare,I.base,I.loc,I.cell,I.free,I.freeC,fun p hp=>(List.mem_append.mp hp).elim (fun z=>I.pin p (List.mem_append_left _ z)) (h p),I.hok,I.len⟩
theorem jF {N:List Str} (hN:N.Nodup) {i j:Nat} {x:Str} (a:N[i]? =some x) (b:N[j]? =some x):i=j:=by
 obtain⟨h1,e1⟩:=ay.mp a
 obtain⟨h2,e2⟩:=ay.mp b
 exact(List.getElem_inj hN).mp (e1.trans e2.symm)
theorem kF {M:Model} {A:Around} {E:Value->Shared->Prop} {i:Nat} {x:Str} {v:V} {u:Value} {Q:Unit->Shared->Prop} (I:Inv X pins σ H s) (hN:X.N.Nodup) (hi:X.N[i]? =some x) (hx:Loc X.env.scope x) (r:aP v u)
  (h: ∀ s',Inv X pins (σ.set i (some v)) H s'->(∃ a,Heap.SameBut a s.heap s'.heap/\(a=X.env.locals\/X.env.cells.lookup x=some a))->Q () s') (hf:X.fn x=true\/X.env.scope.names.lookup x=some .local:=by first | exact .inl rfl | exact .inr rfl | assumption):wpAny M A (storeName X.env x u) Q E s:=by
 obtain⟨m,hn,hl⟩:=id I.loc
 have hcls:(X.env.scope.kind== .class||(X.env.scope.kind== .module&&X.env.locals != X.env.globals))=false:=by rw [I.ok.kind];rfl
 have hiσ:i<σ.length:=by rw [I.len];exact(ay.mp hi).1
 have cne:=I.cne
 have tracked: ∀ {a:Addr} {h':Heap},(∃ o,s.heap.get? a=some o/\H a=none)->Heap.SameBut a s.heap h'->HOk X.prog X.w H h':=fun {a h'} ha hs b ob e=>by
  obtain⟨_,_,hfree⟩:=ha
  refine(I.hok b ob e).stay (fun c w' hc q=>(hs.2 c ?_).trans q) (fun _ q=>q) fun _ _ q=>q
  rintro rfl
  rcases hc with rfl | hc
  ·rw [hfree] at e;cases e
  ·rw [hfree] at hc;cases hc
 rcases hx with hk | hk
 ·refine wpAny_storeName_local hk hn (fun h' hn' hs=> ?_) hcls
  obtain⟨oL,_,_,hoL,_⟩:=id hn
  refine h _ ⟨I.ok,I.os,I.bare,⟨fun b o e n hb hx=> ?_,fun b o e n hb hx=> ?_,I.base.free,fun b o e hx=> ?_,I.base.tups,I.base.frzs,I.base.tbls⟩,⟨_,hn',fun j y v' e1 e2 e3=> ?_⟩,fun y c e=> ?_,I.free,I.freeC,fun p hp=> ?_,tracked ⟨oL,hoL,I.free⟩ hs,by simpa using I.len⟩ ⟨_,hs, .inl rfl⟩
  ·exact(hs.2 b (bj (bh (ai e) I.ok.above))).trans (I.base.keep b o e n hb hx)
  ·obtain⟨sl,e1⟩:=I.base.slot b o e n hb hx
   exact⟨sl,(hs.2 b (bj (bh (ai e) I.ok.above))).trans e1⟩
  ·obtain⟨o',e1⟩:=I.base.there b o e hx
   exact⟨o',(hs.2 b (bj (bh (ai e) I.ok.above))).trans e1⟩
  ·by_cases hj:j=i
   ·subst hj
    rw [hi] at e1;cases e1
    rw [bn hiσ] at e2
    cases e2
    exact⟨u,r, .inl ⟨hk,by simp⟩⟩
   ·rw [bd (Ne.symm hj)] at e2
    obtain⟨u',r',q⟩:=hl j y v' e1 e2 e3
    refine⟨u',r', ?_⟩
    rcases q with ⟨k,e⟩ | ⟨k,c,e,z⟩
    ·refine .inl ⟨k, ?_⟩
     have:y≠x:=fun e=>hj (jF hN e1 (e▸hi))
     simp [this,e]
    ·exact .inr ⟨k,c,e,z.sameBut hs (cne y c e)⟩
  ·obtain⟨w',z⟩:=I.cell y c e
   exact⟨w',z.sameBut hs (cne y c e)⟩
  ·obtain⟨e,n,ne,nf,d⟩:=I.pin p hp
   exact⟨(hs.2 p.1 ne).trans e,n,ne,nf,d⟩
 ·have hfn:X.fn x=true:=by
   rcases hf with z | z
   ·exact z
   ·rw [z] at hk;cases hk
  obtain⟨c,hc⟩:=I.ok.has x (.inl hk)
  obtain⟨w',z⟩:=I.cell x c hc
  refine wpAny_storeName_cell I.ok.kind hk hc z (fun h' hc' hs=> ?_)
  obtain⟨oc,hoc,hocd⟩:=id z
  refine h { s with heap:=h' } ⟨I.ok,I.os,I.bare,⟨fun b o e n hb hx=> ?_,fun b o e n hb hx=> ?_,I.base.free,fun b o e hx=> ?_,I.base.tups,I.base.frzs,I.base.tbls⟩,⟨m,hn.sameBut hs (Ne.symm (cne x c hc)),fun j y v' e1 e2 e3=> ?_⟩,fun y c' e=> ?_,I.free,I.freeC,fun p hp=> ?_,tracked ⟨oc,hoc,I.freeC x c hc⟩ hs,by simpa using I.len⟩ ⟨c,hs, .inr hc⟩
  ·exact(hs.2 b (bj (bh (ai e) (I.ok.cab x c hfn hc)))).trans (I.base.keep b o e n hb hx)
  ·obtain⟨sl,e1⟩:=I.base.slot b o e n hb hx
   exact⟨sl,(hs.2 b (bj (bh (ai e) (I.ok.cab x c hfn hc)))).trans e1⟩
  ·obtain⟨o',e1⟩:=I.base.there b o e hx
   exact⟨o',(hs.2 b (bj (bh (ai e) (I.ok.cab x c hfn hc)))).trans e1⟩
  ·by_cases hj:j=i
   ·subst hj
    rw [hi] at e1;cases e1
    rw [bn hiσ] at e2
    cases e2
    exact⟨u,r, .inr ⟨.inl hk,c,hc,hc'⟩⟩
   ·rw [bd (Ne.symm hj)] at e2
    obtain⟨u',r',q⟩:=hl j y v' e1 e2 e3
    refine⟨u',r', ?_⟩
    rcases q with q | ⟨k,c',e,z'⟩
    ·exact .inl q
    ·refine .inr ⟨k,c',e,z'.sameBut hs ?_⟩
     rintro rfl
     exact hj (jF hN e1 (I.ok.inj _ _ _ e hc▸hi))
  ·by_cases hcc:c'=c
   ·subst hcc;exact⟨_,hc'⟩
   ·obtain⟨w2,z2⟩:=I.cell y c' e
    exact⟨w2,z2.sameBut hs hcc⟩
  ·obtain⟨e,n,ne,nf,d⟩:=I.pin p hp
   refine⟨(hs.2 p.1 ?_).trans e,n,ne,nf,d⟩
   intro q
   rw [q,hoc] at e
   have q':oc=p.2:=Option.some.inj e
   exact d w' (by rw [<-q'];exact hocd)
theorem eS {M:Model} {A:Around} {E:Value->Shared->Prop} {i:Nat} {x:Str} {v:V} {u:Value} {Q:Unit->Shared->Prop} (I:Inv X pins σ H s) (hN:X.N.Nodup) (hi:X.N[i]? =some x) (hx:Loc X.env.scope x) (r:aP v u)
  (h: ∀ s',Inv X pins (σ.set i (some v)) H s'->Q () s') (hf:X.fn x=true\/X.env.scope.names.lookup x=some .local:=by first | exact .inl rfl | exact .inr rfl | assumption):wpAny M A (storeName X.env x u) Q E s:=
 kF I hN hi hx r (fun s' I' _=>h s' I') hf
theorem Inv.call' {s':Shared} {ch:List Addr} (I:Inv X pins σ H s) (ho:s'.os=s.os) (u:Un (frs X.stack) ch H H' s.heap s'.heap) (hok:HOk X.prog X.w H' s'.heap) (hg:AllBare s'.gens)
  (hch: ∀ b∈ch,(b∈X.ex\/X.s₀.heap.objs.size<=b)/\b≠X.env.locals/\(∀ x c,X.env.cells.lookup x=some c->c≠b)/\ ∀ p∈X.pn++pins,p.1≠b):Inv X pins σ H' s':=by
 obtain⟨h',g',d',t',o'⟩:=s'
 have e:o'=s.os:=ho
 subst e
 exact I.call (g':=g') (t':=t') (d':=d') u hok hg hch
end
abbrev XK:=Value->Option Addr->Hp->Prop
abbrev St:=List (Option V)
abbrev VK:=V->Hp->Prop
abbrev TE:=St->Hp->VK->Prop
abbrev TT:=St->Hp->(Bool->Hp->Prop)->Prop
abbrev TA:=St->Hp->(List V->Hp->Prop)->Prop
structure Ends where
 nx:St->Hp->Prop
 rt:VK
 bk:St->Hp->Prop:=fun _ _=>False
 ct:St->Hp->Prop:=fun _ _=>False
abbrev TS:=Ends->St->Hp->Prop
def EP (X:Cx) (pins:List (Addr×Obj)) (σ:St) (Q:VK) (u:Value) (s':Shared):Prop:= ∃ v H',Inv X pins σ H' s'/\aP v u/\Q v H'
def TP (X:Cx) (pins:List (Addr×Obj)) (σ:St) (Q:Bool->Hp->Prop) (b:Bool) (s':Shared):Prop:= ∃ H',Inv X pins σ H' s'/\Q b H'
def AP (X:Cx) (pins:List (Addr×Obj)) (σ:St) (Q:List V->Hp->Prop) (us:List Value) (s':Shared):Prop:= ∃ vs H',Inv X pins σ H' s'/\aS vs us/\Q vs H'
def SP (X:Cx) (pins:List (Addr×Obj)) (D:Ends) (f:Flow) (s':Shared):Prop:=
 match f with
 | .next=> ∃ σ' H',Inv X pins σ' H' s'/\D.nx σ' H'
 | .brk=> ∃ σ' H',Inv X pins σ' H' s'/\D.bk σ' H'
 | .cont=> ∃ σ' H',Inv X pins σ' H' s'/\D.ct σ' H'
 | .ret u=> ∃ v σ' H',Inv X pins σ' H' s'/\aP v u/\D.rt v H'
def PE (X:Cx) (e:Expr) (t:TE):Prop:=
 ∀ (pins:List (Addr×Obj)) (s:Shared) (σ:St) (H:Hp) (Q:VK),Inv X pins σ H s->t σ H Q->wpAny (model X.prog X.w) X.A (eval e X.env) (EP X pins σ Q) X.xe s
def PT (X:Cx) (e:Expr) (t:TT):Prop:=
 ∀ (pins:List (Addr×Obj)) (s:Shared) (σ:St) (H:Hp) (Q:Bool->Hp->Prop),Inv X pins σ H s->t σ H Q->wpAny (model X.prog X.w) X.A (isTrue e X.env (eval e X.env)) (TP X pins σ Q) X.xe s
def PW (X:Cx) (e:Expr) (t:TT):Prop:=
 ∀ (whole:Sem Value) (pins:List (Addr×Obj)) (s:Shared) (σ:St) (H:Hp) (Q:Bool->Hp->Prop),Inv X pins σ H s->t σ H Q->wpAny (model X.prog X.w) X.A (isTrue e X.env whole) (TP X pins σ Q) X.xe s
theorem PW.pt {X:Cx} {e:Expr} {t:TT} (h:PW X e t):PT X e t:=h _
def PA (X:Cx) (es:List Expr) (t:TA):Prop:=
 ∀ (pos:Pos) (pins:List (Addr×Obj)) (s:Shared) (σ:St) (H:Hp) (Q:List V->Hp->Prop),Inv X pins σ H s->t σ H Q->wpAny (model X.prog X.w) X.A (spliced (backTo pos (starEach es X.env))) (AP X pins σ Q) X.xe s
def PS (X:Cx) (st:Stmt) (t:TS):Prop:=
 ∀ (pins:List (Addr×Obj)) (s:Shared) (σ:St) (H:Hp) (D:Ends),Inv X pins σ H s->t D σ H->wpAny (model X.prog X.w) X.A (exec st X.env) (SP X pins D) X.xe s
def PSs (X:Cx) (st:List Stmt) (t:TS):Prop:=
 ∀ (pins:List (Addr×Obj)) (s:Shared) (σ:St) (H:Hp) (D:Ends),Inv X pins σ H s->t D σ H->wpAny (model X.prog X.w) X.A (execs st X.env) (SP X pins D) X.xe s
theorem thn {α:Type} {t:Sem α} {Q Q':α->Shared->Prop} {M:Model} {A:Around} {E:Value->Shared->Prop} {s:Shared} (h:wpAny M A t Q E s) (hQ: ∀ a s,Q a s->Q' a s):wpAny M A t Q' E s:=wpAny_mono h hQ fun _ _ x=>x
section
variable {X:Cx}
noncomputable def aEx (i:Nat):TE:=fun σ H Q=> ∃ v,σ[i]? =some (some v)/\Q v H
noncomputable def tC (v:V):TE:=fun _ H Q=>Q v H
theorem aV {i:Nat} {x:Str} {pos:Pos} (hN:X.N[i]? =some x) (hv:Vis X.env.scope x) (hd:(x==("__debug__":Str))=false:=by decide) (hcd:(x==("__classdict__":Str))=false:=by decide):PE X (.Name x pos) (aEx i):=by
 intro pins s σ H Q I h
 obtain⟨v,e,h⟩:=h
 obtain⟨m,hn,hl⟩:=I.loc
 obtain⟨u,r,l⟩:=hl i x v hN e hv
 have fin:EP X pins σ Q u s:=⟨v,H,I,r,h⟩
 rcases l with ⟨hk,hm⟩ | ⟨hk,c,hc,hcell⟩
 ·exact wpAny_Name (wpAny_loadName_local I.ok.kind hk hn hm fin) hd
 ·rcases hk with hk | hk
  ·exact wpAny_Name (wpAny_loadName_cell I.ok.kind hk hc hcell fin) hd
  ·exact wpAny_Name (wpAny_loadName_free I.ok.kind hk hc hcell fin hcd) hd
theorem aEy {i j pos}:PE X (.Constant (.int i) j pos) (tC (.int i)):=fun _ _ _ H _ I h=>wpAny_Constant_int ⟨.int i,H,I.tok _,⟨_,rfl⟩,h⟩
theorem aJb {b j pos}:PE X (.Constant (.bool b) j pos) (tC (.bl b)):=fun _ _ _ H _ I h=>Constant_bool ⟨.bl b,H,I,rfl,h⟩
theorem aEz {j pos}:PE X (.Constant .none j pos) (tC .non):=fun _ _ _ H _ I h=>Constant_none ⟨.non,H,I,rfl,h⟩
theorem aE0 {x j pos}:PE X (.Constant (.str x) j pos) (tC (.str x)):=fun _ _ _ H _ I h=>Calls.Constant_str ⟨.str x,H,I.tok _,⟨_,rfl⟩,h⟩
def Gl (X:Cx) (x:Str):Prop:=X.env.kindOf x=some .globalImplicit
theorem eM {E:Value->Shared->Prop} {pins:List (Addr×Obj)} {s:Shared} {σ:St} {H:Hp} {x:Str} {u:Value} {pos:Pos} {Q:Value->Shared->Prop} (I:Inv X pins σ H s) (hg:Gl X x) (hm:X.mg x=some u) (h:Q u s)
  (hd:(x==("__debug__":Str))=false:=by decide):wpAny (model X.prog X.w) X.A (eval (.Name x pos) X.env) Q E s:=
 Calls.Name_function_global I.ok.kind hg (Calls.loadGlobal_global (by rw [I.ok.glob];exact I.mod.glob.keeps I.bk) hm h) hd
theorem gN {E:Value->Shared->Prop} {pins:List (Addr×Obj)} {s:Shared} {σ:St} {H:Hp} {x:Str} {u:Value} {pos:Pos} {Q:Value->Shared->Prop} (I:Inv X pins σ H s) (hg:Gl X x) (hm:X.mg x=none) (hv:bootBuiltins x=some u) (h:Q u s)
  (hn:x≠"__name__":=by decide) (hd:(x==("__debug__":Str))=false:=by decide):wpAny (model X.prog X.w) X.A (eval (.Name x pos) X.env) Q E s:=by
 obtain⟨mb,h1,h2⟩:=I.mod.blt
 exact Calls.Name_function_global I.ok.kind hg (Calls.loadGlobal_builtin (by rw [I.ok.glob];exact I.mod.glob.keeps I.bk) hm (by rw [I.ok.blt];exact h1.keeps I.bk) ((h2 x hn).trans hv) h) hd
theorem aAm {x:Str} {v:V} {u:Value} {pos:Pos} (hg:Gl X x) (hm:X.mg x=some u) (r:aP v u) (hd:(x==("__debug__":Str))=false:=by decide):PE X (.Name x pos) (tC v):=
 fun _ _ _ H _ I h=>eM I hg hm ⟨v,H,I,r,h⟩ hd
variable {a b:Expr} {ta tb:TE} {pos:Pos}
def PC (X:Cx) (op:CmpOp) (a b:Expr) (t:TE):Prop:=
 ∀ (pins:List (Addr×Obj)) (s:Shared) (σ:St) (H:Hp) (Q:VK),Inv X pins σ H s->t σ H Q->
  wpAny (model X.prog X.w) X.A (eval a X.env) (fun v s₁=>wpAny (model X.prog X.w) X.A (eval b X.env) (fun u s₂=>wpAny (model X.prog X.w) X.A (compareOp op v u) (EP X pins σ Q) X.xe s₂) X.xe s₁) X.xe s
noncomputable def tB (t:TE):TT:=fun σ H Q=>t σ H fun x H1=> ∃ c,x= .bl c/\Q c H1
theorem aE1 {op:CmpOp} {t:TE} (h:PC X op a b t) (h1:behindInMarks op b=false:=by first | exact nobehind _ (by decide) (by decide) | rfl):PE X (.Compare a [op] [b] pos) t:=fun pins s σ H Q I hw=>wpAny_Compare1 (h pins s σ H Q I hw) h1
theorem aE2 {e:Expr} {t:TE} (h:PE X e t) (he: ∀ whole,isTrue e X.env whole=(do let v<-whole;standAt e.pos;holding [v] (truthy v)):=by intro _;rfl):PT X e (tB t):=by
 intro pins s σ H Q I hw
 refine isTrue_plain (thn (h pins s σ H _ I hw) fun v s1 ⟨x,H1,I1,r1,q1⟩=> ?_) (he _)
 obtain⟨d,rfl,q⟩:=q1
 cases r1
 exact wpAny_truthy_bool ⟨H1,I1,q⟩
variable {tA tB':TT} {dW:List Expr}
noncomputable def aLg (t u:TT):TT:=fun σ H Q=>t σ H fun c H1=>if c=true then u σ H1 Q else Q false H1
noncomputable def tOr (t u:TT):TT:=fun σ H Q=>t σ H fun c H1=>if c=true then Q true H1 else u σ H1 Q
noncomputable def aLh (t:TT):TT:=fun σ H Q=>t σ H fun c H1=>Q (!c) H1
theorem pw_and1 (ha:PT X a tA):PW X (.BoolOp .And [a] pos) tA:=by
 intro wh pins s σ H Q I h
 refine isTrue_and (thn (ha pins s σ H Q I h) fun c s1 e=> ?_)
 cases c with
 | true=>exact isTrue_and_nil e
 | false=>exact e
theorem pw_or1 (ha:PT X a tA):PW X (.BoolOp .Or [a] pos) tA:=by
 intro wh pins s σ H Q I h
 refine isTrue_or (thn (ha pins s σ H Q I h) fun c s1 e=> ?_)
 cases c with
 | false=>exact isTrue_or_nil e
 | true=>exact e
theorem pw_and (ha:PT X a tA) (hb:PW X (.BoolOp .And (b::dW) pos) tB'):PW X (.BoolOp .And (a::b::dW) pos) (aLg tA tB'):=by
 intro wh pins s σ H Q I h
 refine isTrue_and (thn (ha pins s σ H _ I h) fun c s1 hz_=> ?_)
 obtain⟨H1,I1,q1⟩:=hz_
 cases c with
 | true=>exact hb wh pins s1 σ H1 Q I1 q1
 | false=>exact⟨H1,I1,q1⟩
theorem pw_or (ha:PT X a tA) (hb:PW X (.BoolOp .Or (b::dW) pos) tB'):PW X (.BoolOp .Or (a::b::dW) pos) (tOr tA tB'):=by
 intro wh pins s σ H Q I h
 refine isTrue_or (thn (ha pins s σ H _ I h) fun c s1 hz_=> ?_)
 obtain⟨H1,I1,q1⟩:=hz_
 cases c with
 | true=>exact⟨H1,I1,q1⟩
 | false=>exact hb wh pins s1 σ H1 Q I1 q1
theorem aE3 (ha:PT X a tA):PT X (.UnaryOp .Not a pos) (aLh tA):=by
 intro pins s σ H Q I h
 exact isTrue_not (ha pins s σ H (fun c H1=>Q (!c) H1) I h)
noncomputable def aAn (ta tb:TE):TE:=fun σ H Q=>ta σ H fun x H1=> ∃ c,x= .bl c/\if c=true then tb σ H1 Q else Q (.bl false) H1
noncomputable def aLi (ta tb:TE):TE:=fun σ H Q=>ta σ H fun x H1=> ∃ c,x= .bl c/\if c=true then Q (.bl true) H1 else tb σ H1 Q
noncomputable def aJc (ta:TE):TE:=fun σ H Q=>ta σ H fun x H1=> ∃ c,x= .bl c/\Q (.bl (!c)) H1
theorem aE4 {op} {t:TE} (h:PE X a t):PE X (.BoolOp op [a] pos) t:=fun pins s σ H Q I hw=>BoolOp_one (h pins s σ H Q I hw)
theorem yJ (ha:PE X a ta) (hb:PE X (.BoolOp .And (b::dW) pos) tb):PE X (.BoolOp .And (a::b::dW) pos) (aAn ta tb):=by
 intro pins s σ H Q I h
 refine BoolOp_and (thn (ha pins s σ H _ I h) fun v s1 hz_=> ?_)
 obtain⟨x,H1,I1,r1,q1⟩:=hz_
 obtain⟨c,rfl,q1⟩:=q1
 cases r1
 refine wpAny_truthy_bool ?_
 cases c with
 | true=>exact hb pins s1 σ H1 Q I1 q1
 | false=>exact⟨.bl false,H1,I1,rfl,q1⟩
theorem aJd (ha:PE X a ta) (hb:PE X (.BoolOp .Or (b::dW) pos) tb):PE X (.BoolOp .Or (a::b::dW) pos) (aLi ta tb):=by
 intro pins s σ H Q I h
 refine BoolOp_or (thn (ha pins s σ H _ I h) fun v s1 hz_=> ?_)
 obtain⟨x,H1,I1,r1,q1⟩:=hz_
 obtain⟨c,rfl,q1⟩:=q1
 cases r1
 refine wpAny_truthy_bool ?_
 cases c with
 | false=>exact hb pins s1 σ H1 Q I1 q1
 | true=>exact⟨.bl true,H1,I1,rfl,q1⟩
theorem aE5 (ha:PE X a ta):PE X (.UnaryOp .Not a pos) (aJc ta):=by
 intro pins s σ H Q I h
 refine UnaryOp_ (thn (ha pins s σ H _ I h) fun v s1 hz_=> ?_)
 obtain⟨x,H1,I1,r1,q1⟩:=hz_
 obtain⟨c,rfl,q1⟩:=q1
 cases r1
 exact not_of (wpAny_truthy_bool ⟨.bl (!c),H1,I1,rfl,q1⟩)
noncomputable def tIf (t:TT) (ta tb:TE):TE:=fun σ H Q=>t σ H fun c H1=>if c=true then ta σ H1 Q else tb σ H1 Q
theorem vV {c:Expr} (hc:PT X c tA) (ha:PE X a ta) (hb:PE X b tb):PE X (.IfExp c a b pos) (tIf tA ta tb):=by
 intro pins s σ H Q I h
 refine wpAny_IfExp (thn (hc pins s σ H _ I h) fun d s1 hz_=> ?_)
 obtain⟨H1,I1,q1⟩:=hz_
 cases d with
 | true=>exact ha pins s1 σ H1 Q I1 q1
 | false=>exact hb pins s1 σ H1 Q I1 q1
end
def SqL (K:PySem.W.Frag) (H:Hp) (a:Addr) (xs:List V):Prop:=
 Rd H a (.lst xs)\/
  ∃ (o:Obj) (its:Array Value) (n:Nat),K.lookup a=some o/\o.cls= .type "list"/\o.dict=none/\o.data= .seq its n/\its.size<=sizeLine/\aS xs its.toList
def SqT (K:PySem.W.Frag) (H:Hp) (a:Addr) (xs:List V):Prop:=
 Rd H a (.tup xs)\/
  ∃ (o:Obj) (its:Array Value) (n:Nat),K.lookup a=some o/\o.cls= .type "tuple"/\o.dict=none/\o.data= .seq its n/\its.size<=sizeLine/\aS xs its.toList
noncomputable def aMi:Value->Option V
 | .none=>some .non
 | .bool b=>some (.bl b)
 | .int i _=>some (.int i)
 | .str x _=>some (.str x)
 | .bytes b _=>some (.byt b)
 | .float b _=>some (.flt b)
 | .ref a=>some (.ref a)
 | .type n=>some (.ty n)
 | _=>none
theorem aP.abs {x:V} {u:Value} (r:aP x u):aMi u=some x:=by
 cases x with
 | non=>cases r;rfl
 | bl _=>cases r;rfl
 | int _=>obtain⟨t,rfl⟩:=r;rfl
 | str _=>obtain⟨t,rfl⟩:=r;rfl
 | byt _=>obtain⟨t,rfl⟩:=r;rfl
 | flt _=>obtain⟨t,rfl⟩:=r;rfl
 | ref _=>cases r;rfl
 | ty _=>cases r;rfl
theorem aP.inj {x y:V} {u:Value} (r:aP x u) (q:aP y u):x=y:=Option.some.inj (r.abs.symm.trans q.abs)
theorem aS.inj: ∀ {xs ys:List V} {us:List Value},aS xs us->aS ys us->xs=ys
 | _,_,_, .nil, .nil=>rfl
 | _,_,_, .cons r t, .cons r' t'=>by rw [r.inj r',aS.inj t t']
section
variable {X:Cx} {pins:List (Addr×Obj)} {σ:St} {H:Hp} {s:Shared} {a:Addr} {xs ys:List V}
theorem SqL.of {K:PySem.W.Frag} (h:H a=some (.lst xs)):SqL K H a xs:= .inl (.inl h)
theorem SqT.of {K:PySem.W.Frag} (h:H a=some (.tup xs)):SqT K H a xs:= .inl (.inl h)
theorem Inv.list (I:Inv X pins σ H s) (h:SqL X.K H a xs): ∃ its:List Value,aS xs its/\PlainL s.heap a its.toArray/\xs.length<=sizeLine:=by
 rcases h with h | ⟨o,its,n,hk,hc,hd,hs,hz,r⟩
 ·obtain⟨z,its,n,r,e⟩:=h.ok I.hok
  exact⟨its,r,⟨_,n,e,rfl,rfl,rfl⟩,z⟩
 ·refine⟨its.toList,r,⟨o,n,I.kIn a o hk,hc,hd,by simpa using hs⟩, ?_⟩
  have e:=r.length
  simp only [Array.length_toList] at e
  omega
theorem Inv.tuple (I:Inv X pins σ H s) (h:SqT X.K H a xs): ∃ its:List Value,aS xs its/\IsTup s.heap a its.toArray/\xs.length<=sizeLine:=by
 rcases h with h | ⟨o,its,n,hk,hc,_,hs,hz,r⟩
 ·obtain⟨z,its,r,p,_⟩:=h.ok I.hok
  exact⟨its,r,p,z⟩
 ·refine⟨its.toList,r,⟨o,I.kIn a o hk,hc,n,by simpa using hs⟩, ?_⟩
  have e:=r.length
  simp only [Array.length_toList] at e
  omega
theorem Inv.list_inj (I:Inv X pins σ H s) (h:SqL X.K H a xs) (h':SqL X.K H a ys):xs=ys:=by
 obtain⟨its,r,⟨o,n,e,_,_,d⟩,_⟩:=I.list h
 obtain⟨its',r',⟨o',n',e',_,_,d'⟩,_⟩:=I.list h'
 rw [e] at e';cases e'
 rw [d] at d'
 injection d' with d1 _
 have:its=its':=by simpa using congrArg Array.toList d1
 subst this
 exact r.inj r'
theorem Inv.tuple_inj (I:Inv X pins σ H s) (h:SqT X.K H a xs) (h':SqT X.K H a ys):xs=ys:=by
 obtain⟨its,r,⟨o,e,_,n,d⟩,_⟩:=I.tuple h
 obtain⟨its',r',⟨o',e',_,n',d'⟩,_⟩:=I.tuple h'
 rw [e] at e';cases e'
 rw [d] at d'
 injection d' with d1 _
 have:its=its':=by simpa using congrArg Array.toList d1
 subst this
 exact r.inj r'
end
noncomputable abbrev Cx.wish (X:Cx) (E:Value->Shared->Prop):Cx:={ X with xe:=E }
section
variable {X:Cx} {pins:List (Addr×Obj)} {σ:St} {H:Hp} {s:Shared} {E:Value->Shared->Prop}
end
section
variable {X:Cx} {st:Stmt} {dW:List Stmt} {t u:TS} {e:Expr} {te:TE} {pos:Pos}
noncomputable def aE6:TS:=fun D σ H=>D.nx σ H
noncomputable def aLj (t u:TS):TS:=fun D σ H=>t { D with nx:=u D } σ H
theorem rE:PSs X [] aE6:=fun _ _ σ H _ I h=>wpAny_execs_nil ⟨σ,H,I,h⟩
theorem fW (h1:PS X st t) (h2:PSs X dW u):PSs X (st::dW) (aLj t u):=by
 intro pins s σ H D I h
 refine wpAny_execs_cons (thn (h1 pins s σ H { D with nx:=u D } I h) fun f s1 q=> ?_)
 cases f with
 | next=>
  obtain⟨σ',H',I',q⟩:=q
  exact h2 pins s1 σ' H' D I' q
 | ret v=>exact q
 | brk=>exact q
 | cont=>exact q
theorem jG (h1:PS X st t):PSs X [st] t:=by
 intro pins s σ H D I h
 refine wpAny_execs_cons (thn (h1 pins s σ H D I h) fun f s1 q=> ?_)
 cases f with
 | next=>exact wpAny_execs_nil q
 | ret v=>exact q
 | brk=>exact q
 | cont=>exact q
noncomputable def aE7:TS:=fun D σ H=>D.bk σ H
noncomputable def aJe:TS:=fun D σ H=>D.ct σ H
theorem rF:PS X (.Pass pos) aE6:=fun _ _ σ H _ I h=>wpAny_Pass ⟨σ,H,I,h⟩
theorem vW:PS X (.Break pos) aE7:=fun _ _ σ H _ I h=>wpAny_Break ⟨σ,H,I,h⟩
theorem mM:PS X (.Continue pos) aJe:=fun _ _ σ H _ I h=>wpAny_Continue ⟨σ,H,I,h⟩
theorem Inv.quiet {pins:List (Addr×Obj)} {σ:St} {H:Hp} {s:Shared} (I:Inv X pins σ H s):interactive X.env=false:=by simp [interactive,I.ok.kind]
noncomputable def aAo (te:TE):TS:=fun D σ H=>te σ H fun _ H1=>D.nx σ H1
theorem dR (he:PE X e te) (hs:swapsWith e none pos.line X.env=pure false:=by rfl):PS X (.Expr e pos) (aAo te):=by
 intro pins s σ H D I h
 exact wpAny_Expr_any (thn (he pins s σ H _ I h) fun v s1 ⟨x,H1,I1,r1,q1⟩=>⟨σ,H1,I1,q1⟩) I.quiet hs
noncomputable def aLk (te:TE):TS:=fun D σ H=>te σ H D.rt
theorem kG (he:PE X e te):PS X (.Return (some e) pos) (aLk te):=by
 intro pins s σ H D I h
 exact wpAny_Return_some (thn (he pins s σ H _ I h) fun v s1 ⟨x,H1,I1,r1,q1⟩=>⟨x,σ,H1,I1,r1,q1⟩)
noncomputable def aJf:TS:=fun D _ H=>D.rt .non H
theorem aAp:PS X (.Return none pos) aJf:=fun _ _ σ H _ I h=>wpAny_Return_none ⟨.non,σ,H,I,rfl,h⟩
noncomputable def aJg (c:TT) (t u:TS):TS:=fun D σ H=>c σ H fun b H1=>if b=true then t D σ H1 else u D σ H1
theorem aAq {c:Expr} {a b:List Stmt} {tc:TT} (hc:PT X c tc) (ha:PSs X a t) (hb:PSs X b u):PS X (.If c a b pos) (aJg tc t u):=by
 intro pins s σ H D I h
 refine wpAny_If (thn (hc pins s σ H _ I h) fun d s1 hz_=> ?_)
 obtain⟨H1,I1,q1⟩:=hz_
 cases d with
 | true=>exact ha pins s1 σ H1 D I1 q1
 | false=>exact hb pins s1 σ H1 D I1 q1
end
abbrev TG:=V->St->Hp->(St->Hp->Prop)->Prop
abbrev TGs:=List V->St->Hp->(St->Hp->Prop)->Prop
def PG (X:Cx) (target:Expr) (t:TG):Prop:=
 ∀ (pins:List (Addr×Obj)) (s:Shared) (σ:St) (H:Hp) (v:V) (u:Value) (Q:St->Hp->Prop),Inv X pins σ H s->aP v u->t v σ H Q->
  wpAny (model X.prog X.w) X.A (assign target X.env u) (fun _ s'=> ∃ σ' H',Inv X pins σ' H' s'/\Q σ' H') X.xe s
def PGs (X:Cx) (ts:List Expr) (t:TGs):Prop:=
 ∀ (pins:List (Addr×Obj)) (s:Shared) (σ:St) (H:Hp) (vs:List V) (us:List Value) (Q:St->Hp->Prop),Inv X pins σ H s->aS vs us->t vs σ H Q->
  wpAny (model X.prog X.w) X.A (assignInOrder ((assignEach ts X.env).map (·.2)) us) (fun _ s'=> ∃ σ' H',Inv X pins σ' H' s'/\Q σ' H') X.xe s
abbrev aJh:=V->V->V->Hp->(Hp->Prop)->Prop
def aLl (X:Cx) (t:aJh):Prop:=
 ∀ (pins:List (Addr×Obj)) (s:Shared) (σ:St) (H:Hp) (o i v:V) (ov iv u:Value) (Q:Hp->Prop),Inv X pins σ H s->aP o ov->aP i iv->aP v u->t o i v H Q->
  wpAny (model X.prog X.w) X.A (setItem ov iv u) (fun _ s'=> ∃ H',Inv X pins σ H' s'/\Q H') X.xe s
section
variable {X:Cx} {pos:Pos}
noncomputable def gO (i:Nat):TG:=fun v σ H Q=>Q (σ.set i (some v)) H
theorem fF {i:Nat} {x:Str} (hN:X.N.Nodup) (hi:X.N[i]? =some x) (hx:Loc X.env.scope x) (hf:X.fn x=true\/X.env.scope.names.lookup x=some .local:=by first | exact .inl rfl | exact .inr rfl | assumption):PG X (.Name x pos) (gO i):=by
 intro pins s σ H v u Q I r h
 exact wpAny_assign_Name (eS I hN hi hx r (fun s' I'=>⟨_,H,I',h⟩) hf)
noncomputable def aJi:TGs:=fun vs σ H Q=>vs=[]/\Q σ H
noncomputable def aAr (t:TG) (u:TGs):TGs:=fun vs σ H Q=> ∃ v r,vs=v::r/\t v σ H fun σ' H'=>u r σ' H' Q
theorem rH:PGs X [] aJi:=by
 intro pins s σ H vs us Q I r h
 obtain⟨e,h⟩:=h
 subst e
 cases r
 exact assignInOrder_nil ⟨σ,H,I,h⟩
theorem nZ {e:Expr} {es:List Expr} {t:TG} {u:TGs} (h1:PG X e t) (h2:PGs X es u)
  (hs:(assignEach (e::es) X.env).map (·.2)=assign e X.env::(assignEach es X.env).map (·.2):=by rfl):PGs X (e::es) (aAr t u):=by
 intro pins s σ H vs us Q I r h
 obtain⟨v,vr,e1,h⟩:=h
 subst e1
 cases r with
 | cons r rr=>
  rw [hs]
  refine assignInOrder_cons (thn (h1 pins s σ H _ _ _ I r h) fun _ s1 hz_=> ?_)
  obtain⟨σ1,H1,I1,q1⟩:=hz_
  exact h2 pins s1 σ1 H1 _ _ Q I1 rr q1
noncomputable def aE8 (K:PySem.W.Frag) (n:Nat) (t:TGs):TG:=fun v σ H Q=> ∃ a xs,v= .ref a/\SqT K H a xs/\xs.length=n/\t xs σ H Q
theorem yK {es:List Expr} {k:Nat} {t:TGs} {n:Nat} (hc:X.calm=true) (h:PGs X es t)
  (hn:(assignEach es X.env).length=n:=by rfl) (hst:(assignEach es X.env).findIdx? (·.1)=none:=by rfl):PG X (.Tuple es k pos) (aE8 X.K n t):=by
 intro pins s σ H v u Q I r hw
 obtain⟨a,xs,e1,hq,hl,hw⟩:=hw
 subst e1
 cases r
 obtain⟨its,rv,ht,hz⟩:=I.tuple hq
 refine assign_Tuple_tuple (I.ok.hd hc) ht (by simp [hn, <-hl,rv.length]) hst fun h' hx=> ?_
 have I1:Inv X pins σ H { s with heap:=h' }:=I.kept (t':=s.toks) fun b o e=>hx b o (bj (ai e)) e
 exact h pins _ σ H xs _ Q I1 (by simpa using rv) hw
noncomputable def aMj (to ti:TE) (t:aJh):TG:=fun v σ H Q=>to σ H fun o H1=>ti σ H1 fun i H2=>t o i v H2 fun H3=>Q σ H3
theorem aE9 {o i:Expr} {to ti:TE} {t:aJh} (ho:PE X o to) (hi:PE X i ti) (hs:aLl X t)
  (ha: ∀ v,assign (.Subscript o i pos) X.env v=(do
   let ov<-holding [v] (eval o X.env)
   let iv<-holding [v,ov] (eval i X.env)
   standAt pos
   holding [v,ov,iv] (setItem ov iv v)
   release [v,ov,iv] []):=by intro _;rfl):PG X (.Subscript o i pos) (aMj to ti t):=by
 intro pins s σ H v u Q I r h
 rw [ha]
 refine ae (wpAny_holding (thn (ho pins s σ H _ I h) fun ov s1 hz_=> ?_))
 obtain⟨x,H1,I1,r1,q1⟩:=hz_
 refine ae (wpAny_holding (thn (hi pins s1 σ H1 _ I1 q1) fun iv s2 hz_=> ?_))
 obtain⟨y,H2,I2,r2,q2⟩:=hz_
 refine ae (wpAny_standAt (ae (wpAny_holding (thn (hs pins s2 σ H2 x y v ov iv u _ I2 r1 r2 r q2) fun _ s3 hz_=> ?_))))
 obtain⟨H3,I3,q3⟩:=hz_
 exact wpAny_release ⟨σ,H3,I3,q3⟩
noncomputable def aAs (te:TE) (g:TG):TS:=fun D σ H=>te σ H fun x H1=>g x σ H1 D.nx
theorem yL {tg e:Expr} {te:TE} {g:TG} (he:PE X e te) (hg:PG X tg g) (hs:swapsWithSole [tg] e pos.line X.env=pure false:=by rfl) (hw:swappedStores [tg] e X.env=pure none:=by rfl)
  (h1:(assignEach [tg] X.env).map (·.2)=[assign tg X.env]:=by rfl):PS X (.Assign [tg] e pos) (aAs te g):=by
 intro pins s σ H D I h
 refine wpAny_Assign_stores (thn (he pins s σ H _ I h) fun v s1 ⟨x,H1,I1,r1,q1⟩=> ?_) hs hw
 rw [h1]
 exact thn (hg pins s1 σ H1 x v _ I1 r1 q1) fun _ s2 q=>q
theorem kH {i:Nat} {x:Str} {e:Expr} {te:TE} {pos':Pos} (hN:X.N.Nodup) (hi:X.N[i]? =some x) (hx:Loc X.env.scope x) (he:PE X e te) (hs:swapsWith e (some (.Name x pos')) pos.line X.env=pure false:=by rfl) (hf:X.fn x=true\/X.env.scope.names.lookup x=some .local:=by first | exact .inl rfl | exact .inr rfl | assumption):
  PS X (.Assign [.Name x pos'] e pos) (aAs te (gO i)):=by
 intro pins s σ H D I h
 refine wpAny_Assign_Name (thn (he pins s σ H _ I h) fun v s1 ⟨y,H1,I1,r1,q1⟩=> ?_) hs
 exact eS I1 hN hi hx r1 (fun s2 I2=>⟨_,H1,I2,q1⟩) hf
end
section
variable {X:Cx} {pos:Pos}
noncomputable def aFa (c:TT) (tb:TS):TS:=fun D σ H=> ∃ W:Nat->St->Hp->Prop,(∃ m,W m σ H)/\ ∀ m σ H,W m σ H->
 c σ H fun b H1=>if b=true then ∃ N:St->Hp->Prop,(∀ σ' H',N σ' H'-> ∃ m',m'<m/\W m' σ' H')/\tb { D with nx:=N,ct:=N,bk:=D.nx } σ H1 else D.nx σ H1
theorem vX {c:Expr} {body:List Stmt} {tc:TT} {tb:TS} (hp:PassesOwn (model X.prog X.w) X.A X.env X.xe) (hc:PT X c tc) (hb:PSs X body tb):PS X (.While c body [] pos) (aFa tc tb):=by
 intro pins s σ H D I h
 obtain⟨W,⟨m0,w0⟩,turn⟩:=h
 refine wpAny_While (codeAny_whileLoop (fun n s'=> ∃ σ' H',Inv X pins σ' H' s'/\W n σ' H') ?_ m0 ⟨σ,H,I,w0⟩)
 rintro n s1 ⟨σ1,H1,I1,w1⟩
 refine wpAny_passesOwn hp (thn (hc pins s1 σ1 H1 _ I1 (turn n σ1 H1 w1)) fun b s2 hz_=> ?_)
 obtain⟨H2,I2,q2⟩:=hz_
 cases b with
 | true=>
  obtain⟨N,hN,q2⟩:=q2
  rw [if_pos rfl]
  refine wpAny_passesOwn hp (thn (hb pins s2 σ1 H2 _ I2 q2) fun f s3 q3=> ?_)
  cases f with
  | next=>
   obtain⟨σ3,H3,I3,n3⟩:=q3
   obtain⟨m',hm,w3⟩:=hN σ3 H3 n3
   exact⟨m',hm,σ3,H3,I3,w3⟩
  | cont=>
   obtain⟨σ3,H3,I3,n3⟩:=q3
   obtain⟨m',hm,w3⟩:=hN σ3 H3 n3
   exact⟨m',hm,σ3,H3,I3,w3⟩
  | brk=>exact q3
  | ret v=>exact q3
 | false=>
  rw [if_neg bg]
  exact wpAny_execs_nil ⟨σ1,H2,I2,q2⟩
end
structure It where
 go:Nat->Hp->Prop
 yld:Nat->Hp->V->Hp->Prop
 stop:Nat->Hp->Prop
def mO (X:Cx) (pins:List (Addr×Obj)) (H:Hp) (b:Addr):Prop:=
 H b=none/\b≠X.env.locals/\b∉X.fs/\(b∈X.ex\/X.s₀.heap.objs.size<=b)/\(∀ x c,X.env.cells.lookup x=some c->c≠b)/\ ∀ p∈X.pn++pins,p.1≠b
theorem Inv.fpOk {X:Cx} {pins:List (Addr×Obj)} {σ:St} {H H':Hp} {s:Shared} {b:Addr} (I:Inv X pins σ H s) (hb:s.heap.objs.size<=b) (hn:H' b=none):mO X pins H' b:=by
 refine⟨hn,Nat.ne_of_gt (bh I.lt hb),I.nofs hb, .inr (Nat.le_trans I.sz hb),fun x c e z=> ?_,fun p hp z=> ?_⟩
 ·obtain⟨v,q⟩:=I.cell x c e
  exact absurd (bh q.lt (by rw [z];exact hb)) (Nat.lt_irrefl _)
 ·exact absurd (bh (ai (I.pin p hp).1) (by rw [z];exact hb)) (Nat.lt_irrefl _)
structure Turn (P:Program) (w:World) (K:PySem.W.Frag) (tg:Expr) (J:It) (fp:List Addr) (it:Addr) (tn:Nat->Heap->Prop):Prop where
 mem:it∈fp
 obj: ∀ i h,tn i h-> ∀ b∈fp, ∃ o,h.get? b=some o/\ ∀ v,o.data≠ .cell v
 keep: ∀ i h h',tn i h->(∀ b∈fp, ∀ o,h.get? b=some o->h'.get? b=some o)->tn i h'
 item: ∀ (X:Cx),X.prog=P->X.w=w->X.K=K->X.calm=true-> ∀ (i:Nat) (pins:List (Addr×Obj)) (s:Shared) (σ:St) (H:Hp) (E:Value->Shared->Prop),Inv X pins σ H s->(∀ b∈fp,mO X pins H b)->tn i s.heap->J.go i H->
  wpAny (model P w) X.A (pyNext (.ref it)) (fun r s1=> ∃ u,r=some u/\
   wpAny (model P w) X.A (letOwnedTupleGo tg (.ref it) u) (fun _ s2=> ∃ x H',Inv X pins σ H' s2/\aP x u/\J.yld i H x H'/\tn (i+1) s2.heap/\ ∀ b∈fp,H' b=none) E s1) E s
 done: ∀ (X:Cx),X.prog=P->X.w=w->X.K=K->X.calm=true-> ∀ (i:Nat) (pins:List (Addr×Obj)) (s:Shared) (σ:St) (H:Hp) (E:Value->Shared->Prop),Inv X pins σ H s->(∀ b∈fp,mO X pins H b)->tn i s.heap->J.stop i H->
  wpAny (model P w) X.A (pyNext (.ref it)) (fun r s1=>r=none/\Inv X pins σ H s1) E s
 self: ∀ (A:Around) (i:Nat) (s:Shared) (Q:Value->Shared->Prop) (E:Value->Shared->Prop),tn i s.heap->Q (.ref it) s->wpAny (model P w) A (pyIter (.ref it)) Q E s
abbrev TI:=St->Hp->(It->Hp->Prop)->Prop
def PIE (X:Cx) (pins:List (Addr×Obj)) (σ:St) (tg:Expr) (R:It->Hp->Prop) (itv:Value) (s2:Shared):Prop:=
 ∃ (it:Addr) (fp:List Addr) (tn:Nat->Heap->Prop) (J:It) (H':Hp),itv= .ref it/\Inv X pins σ H' s2/\Turn X.prog X.w X.K tg J fp it tn/\tn 0 s2.heap/\(∀ b∈fp,mO X pins H' b)/\R J H'
def PI (X:Cx) (tg iter:Expr) (wi:TI):Prop:=
 ∀ (pins:List (Addr×Obj)) (s:Shared) (σ:St) (H:Hp) (R:It->Hp->Prop),Inv X pins σ H s->wi σ H R->
  wpAny (model X.prog X.w) X.A (eval iter X.env) (fun v s1=>wpAny (model X.prog X.w) X.A (pyIter v) (PIE X pins σ tg R) X.xe s1) X.xe s
theorem vY {M:Model} {A:Around} {E:Value->Shared->Prop} {s:Shared} {tg:Expr} {it:Addr} {u:Value} {o:Obj} {n:String} {vs:Array Value} {Q:Unit->Shared->Prop} (ho:s.heap.get? it=some o) (hc:o.cls= .type n) (hd:o.data= .fields vs)
  (hn:["enumerate","zip","dict_itemiterator","dict_reverseitemiterator","odict_iterator","itertools.zip_longest","itertools.pairwise"].contains n=false) (hQ:Q () s):wpAny M A (letOwnedTupleGo tg (.ref it) u) Q E s:=by
 unfold letOwnedTupleGo
 cases tg<;>first
  | exact af hQ
  | (cases u<;>first
    | exact af hQ
    | (refine ae (wpAny_load ho ?_)
       rw [hc,hd]
       show wpAny M A (if(["enumerate","zip","dict_itemiterator","dict_reverseitemiterator","odict_iterator","itertools.zip_longest","itertools.pairwise"].contains n&&vs[0]? ==some (rawInt _))=true then _ else _) Q E s
       rw [if_neg (by intro h;rw [hn,Bool.false_and] at h;cases h)]
       exact af hQ))
noncomputable def Itl (K:PySem.W.Frag) (a:Addr):It:=
 ⟨fun i H=> ∃ xs x,SqL K H a xs/\xs[i]? =some x,fun i H x H'=>H'=H/\ ∀ xs,SqL K H a xs->xs[i]? =some x,fun i H=> ∃ xs,SqL K H a xs/\xs.length<=i⟩
noncomputable def Itt (K:PySem.W.Frag) (a:Addr):It:=
 ⟨fun i H=> ∃ xs x,SqT K H a xs/\xs[i]? =some x,fun i H x H'=>H'=H/\ ∀ xs,SqT K H a xs->xs[i]? =some x,fun i H=> ∃ xs,SqT K H a xs/\xs.length<=i⟩
noncomputable def Itr (lo:Int) (n:Nat):It:=⟨fun i _=>i<n,fun i H x H'=>H'=H/\x= .int (lo+i),fun i _=>n<=i⟩
theorem gP {P:Program} {w:World} {K:PySem.W.Frag} {tg:Expr} (a it:Addr):Turn P w K tg (Itl K a) [it] it (fun i h=>h.IsListIter it a i) where
 mem:=by simp
 obj:=fun i h st b hb=>by
  have e:b=it:=by simpa using hb
  subst e
  obtain⟨o,e,c,d⟩:=st
  exact⟨o,e,fun v z=>by rw [d] at z;cases z⟩
 keep:=fun i h h' st k=>st.at fun o e=>k it (by simp) o e
 item:=by
  intro X hP hw hK hc i pins s σ H E I hf st hg
  subst hP hw hK
  obtain⟨xs,x,hq,hx⟩:=hg
  obtain⟨its,rv,p,hz⟩:=I.list hq
  obtain⟨u,hu,ru⟩:=rv.get hx
  obtain⟨f0,f1,f2,f3,f4,f5⟩:=hf it (by simp)
  refine wpAny_pyNext_list_item st p.isList (x:=u) (by simpa using hu) fun h' st' sb=> ?_
  have I1:Inv X pins σ H { s with heap:=h' }:=I.turned (t':=s.toks) (fun b o hb e=>(sb.2 b hb).trans e) f0 f1 f3 f4 f5
  obtain⟨o,e,c,d⟩:=id st'
  exact⟨u,rfl,vY (s:={ s with heap:=h' }) e c d (by decide) ⟨x,H,I1,ru,⟨rfl,fun ys hy=>by rw [I.list_inj hy hq];exact hx⟩,st',fun b hb=>(hf b hb).1⟩⟩
 done:=by
  intro X hP hw hK hc i pins s σ H E I hf st hg
  subst hP hw hK
  obtain⟨xs,hq,hx⟩:=hg
  obtain⟨its,rv,p,hz⟩:=I.list hq
  obtain⟨f0,f1,f2,f3,f4,f5⟩:=hf it (by simp)
  have hl:=rv.length
  exact wpAny_pyNext_list_end (I.ok.hd hc) st p.isList (by simp;omega) fun h' eb=>⟨rfl,I.turned (t':=s.toks) (fun b o hb e=>eb b o hb e) f0 f1 f3 f4 f5⟩
 self:=fun _ _ _ _ _ st h=>wpAny_pyIter_listiter st h
theorem iU {P:Program} {w:World} {K:PySem.W.Frag} {tg:Expr} (a it:Addr):Turn P w K tg (Itt K a) [it] it (fun i h=>h.IsTupleIter it a i) where
 mem:=by simp
 obj:=fun i h st b hb=>by
  have e:b=it:=by simpa using hb
  subst e
  obtain⟨o,e,c,d⟩:=st
  exact⟨o,e,fun v z=>by rw [d] at z;cases z⟩
 keep:=fun i h h' st k=>st.at fun o e=>k it (by simp) o e
 item:=by
  intro X hP hw hK hc i pins s σ H E I hf st hg
  subst hP hw hK
  obtain⟨xs,x,hq,hx⟩:=hg
  obtain⟨its,rv,p,hz⟩:=I.tuple hq
  obtain⟨u,hu,ru⟩:=rv.get hx
  obtain⟨f0,f1,f2,f3,f4,f5⟩:=hf it (by simp)
  refine wpAny_pyNext_tuple_item st (show s.heap.IsTuple a its.toArray from p) (x:=u) (by simpa using hu) fun h' st' sb=> ?_
  have I1:Inv X pins σ H { s with heap:=h' }:=I.turned (t':=s.toks) (fun b o hb e=>(sb.2 b hb).trans e) f0 f1 f3 f4 f5
  obtain⟨o,e,c,d⟩:=id st'
  exact⟨u,rfl,vY (s:={ s with heap:=h' }) e c d (by decide) ⟨x,H,I1,ru,⟨rfl,fun ys hy=>by rw [I.tuple_inj hy hq];exact hx⟩,st',fun b hb=>(hf b hb).1⟩⟩
 done:=by
  intro X hP hw hK hc i pins s σ H E I hf st hg
  subst hP hw hK
  obtain⟨xs,hq,hx⟩:=hg
  obtain⟨its,rv,p,hz⟩:=I.tuple hq
  obtain⟨f0,f1,f2,f3,f4,f5⟩:=hf it (by simp)
  have hl:=rv.length
  exact wpAny_pyNext_tuple_end (I.ok.hd hc) st (show s.heap.IsTuple a its.toArray from p) (by simp;omega) fun h' eb=>⟨rfl,I.turned (t':=s.toks) (fun b o hb e=>eb b o hb e) f0 f1 f3 f4 f5⟩
 self:=fun _ _ _ _ _ st h=>wpAny_pyIter_tupleiter st h
theorem pT {P:Program} {w:World} {K:PySem.W.Frag} {tg:Expr} (it:Addr) (lo:Int) (n:Nat):Turn P w K tg (Itr lo n) [it] it (fun i h=>IsRangeIter h it (lo+(i:Nat) * 1) ((n:Int) - (i:Nat)) 1) where
 mem:=by simp
 obj:=fun i h st b hb=>by
  have e:b=it:=by simpa using hb
  subst e
  exact⟨_,st,fun v z=>by
   have z':Data.fields _=Data.cell v:=z
   cases z'⟩
 keep:=fun i h h' st k=>k it (by simp) _ st
 item:=by
  intro X hP hw hK hc i pins s σ H E I hf st hg
  subst hP hw hK
  obtain⟨f0,f1,f2,f3,f4,f5⟩:=hf it (by simp)
  have W:=Walks.range (prog:=X.prog) (w:=X.w) (I.ok.hd hc) it lo 1 n
  refine W.item i s _ _ hg st fun v h' tk hv st' kk=> ?_
  obtain⟨t,rfl⟩:=hv
  have I1:Inv X pins σ H { s with heap:=h',toks:=tk }:=I.turned (fun b o hb e=>kk b o (by simpa using hb) e) f0 f1 f3 f4 f5
  refine⟨_,rfl,vY (s:={ s with heap:=h',toks:=tk }) (n:="range_iterator") st' rfl rfl (by decide) ⟨.int (lo+i),H,I1,⟨t, ?_⟩,⟨rfl,rfl⟩,st',fun b hb=>(hf b hb).1⟩⟩
  rw [Int.mul_one]
 done:=by
  intro X hP hw hK hc i pins s σ H E I hf st hg
  subst hP hw hK
  obtain⟨f0,f1,f2,f3,f4,f5⟩:=hf it (by simp)
  exact wpAny_pyNext_range_end (I.ok.hd hc) st (by have:n<=i:=hg;omega) fun h' eb=>⟨rfl,I.turned (t':=s.toks) (fun b o hb e=>eb b o hb e) f0 f1 f3 f4 f5⟩
 self:=fun _ _ _ _ _ st h=>wpAny_pyIter_rangeiter st h
section
variable {X:Cx} {tg:Expr}
theorem vZ {pins:List (Addr×Obj)} {σ:St} {H:Hp} {s:Shared} {R:It->Hp->Prop} {E:Value->Shared->Prop} {lo hi:Int} {t u v:Tok} {tk:Nat} (I:Inv X pins σ H s) (h1: -(2 ^ 62)<=lo) (h2:lo<2 ^ 62) (h3: -(2 ^ 62)<=hi) (h4:hi<2 ^ 62)
  (q:R (Itr lo (hi - lo).toNat) H):wpAny (model X.prog X.w) X.A (pyIter (.ref s.heap.objs.size)) (PIE X pins σ tg R) E { s with heap:=s.heap.push { cls:= .type "range",data:= .fields #[.int lo t, .int hi u, .int 1 v] },toks:=tk }:=by
 refine wpAny_pyIter_range (IsRange.new ..) (small_one h1 h2 h3 h4) ?_
 have I1:Inv X pins σ H { s with heap:=s.heap.push { cls:= .type "range",data:= .fields #[.int lo t, .int hi u, .int 1 v] },toks:=tk }:=I.kept fun b o e=>ag _ e
 refine⟨(s.heap.push { cls:= .type "range",data:= .fields #[.int lo t, .int hi u, .int 1 v] }).objs.size,[(s.heap.push { cls:= .type "range",data:= .fields #[.int lo t, .int hi u, .int 1 v] }).objs.size],_,_,H,rfl,
  I1.kept (t':=tk) fun b o e=>ag _ e,pT _ lo (hi - lo).toNat, ?_,fun b hb=> ?_,q⟩
 ·have e1:lo+((0:Nat):Int) * 1=lo:=by simp
  have e2:(((hi - lo).toNat:Nat):Int) - ((0:Nat):Int)=Builtin.Range.rangeSize lo hi 1:=by rw [rangeSize_one];split<;>omega
  show IsRangeIter _ _ (lo+((0:Nat):Int) * 1) ((((hi - lo).toNat:Nat):Int) - ((0:Nat):Int)) 1
  rw [e1,e2]
  exact ah _ rfl
 ·have e:b=(s.heap.push { cls:= .type "range",data:= .fields #[.int lo t, .int hi u, .int 1 v] }).objs.size:=by simpa using hb
  subst e
  exact I1.fpOk (ak _) (I1.hok.fresh (ak _))
noncomputable def aJj (ta:TA):TI:=fun σ H R=>ta σ H fun vs H1=> ∃ j:Int,vs=[.int j]/\ -(2 ^ 62)<=j/\j<2 ^ 62/\R (Itr 0 j.toNat) H1
theorem kJ {a:Expr} {ta:TA} {p pos:Pos} (hg:Gl X "range") (hm:X.mg "range"=none) (ha:PA X [a] ta) (hs:starEach [a] X.env=[(false,eval a X.env)]:=by rfl):PI X tg (.Call (.Name "range" p) [a] [] pos) (aJj ta):=by
 intro pins s σ H R I h
 refine Call_ (gN I hg hm boot_range (PyProof.Rows.callWith_type1 (thn (ha pos pins s σ H _ I h) fun us s1 ⟨vs,H1,I1,r1,q1⟩=> ?_) hs rfl))
 obtain⟨j,e,q1,q2,q⟩:=q1
 subst e
 cases r1 with
 | cons r rr=>
  cases rr
  obtain⟨t,rfl⟩:=r
  exact call_range_1 (vZ I1 (by omega) (by omega) q1 q2 (by simpa using q))
noncomputable def aLm (wi:TI) (g:TG) (tb:TS):TS:=fun D σ H=>wi σ H fun J H1=> ∃ W:Nat->Nat->St->Hp->Prop,(∃ m,W 0 m σ H1)/\ ∀ i m σ H,W i m σ H->
 (J.stop i H/\D.nx σ H)\/(J.go i H/\ ∃ N:St->Hp->Prop,(∀ σ' H',N σ' H'-> ∃ m',m'<m/\W (i+1) m' σ' H')/\ ∀ x H',J.yld i H x H'->g x σ H' fun σ2 H2=>tb { D with nx:=N,ct:=N,bk:=D.nx } σ2 H2)
noncomputable def dO (fp:List Addr) (h:Heap):List (Addr×Obj):=fp.filterMap fun b=>(h.get? b).map fun o=>(b,o)
theorem cN {fp:List Addr} {h:Heap} {b:Addr} {o:Obj} (hb:b∈fp) (e:h.get? b=some o):(b,o)∈dO fp h:=List.mem_filterMap.mpr ⟨b,hb,by rw [e];rfl⟩
theorem gQ {fp:List Addr} {h:Heap} {p:Addr×Obj} (hp:p∈dO fp h):p.1∈fp/\h.get? p.1=some p.2:=by
 obtain⟨b,hb,e⟩:=List.mem_filterMap.mp hp
 cases q:h.get? b with
 | none=>rw [q] at e;cases e
 | some o=>
  rw [q] at e
  have e':(b,o)=p:=Option.some.inj e
  subst e'
  exact⟨hb,q⟩
theorem Inv.pinned {pins:List (Addr×Obj)} {σ:St} {H:Hp} {s:Shared} {fp:List Addr} (I:Inv X pins σ H s) (hf: ∀ b∈fp,mO X pins H b) (ho: ∀ b∈fp, ∃ o,s.heap.get? b=some o/\ ∀ v,o.data≠ .cell v):Inv X (pins++dO fp s.heap) σ H s:=
 I.pins_of fun p hp=>(List.mem_append.mp hp).elim (fun z=>I.pin p (bt _ z)) fun z=>by
  obtain⟨hb,e⟩:=gQ z
  obtain⟨f0,f1,f2,_⟩:=hf p.1 hb
  obtain⟨o,e',d⟩:=ho p.1 hb
  rw [e] at e';cases e'
  exact⟨e,f0,f1,f2,d⟩
theorem Inv.unpinned {pins pl:List (Addr×Obj)} {σ:St} {H:Hp} {s:Shared} (I:Inv X (pins++pl) σ H s):Inv X pins σ H s:=I.pins_of fun p hp=>I.pin p (bt _ (List.mem_append_left _ hp))
theorem yM {iter:Expr} {body:List Stmt} {wi:TI} {g:TG} {tb:TS} {pos:Pos} (hp:PassesOwn (model X.prog X.w) X.A X.env X.xe) (hc:X.calm=true) (hi:PI X tg iter wi) (hg:PG X tg g) (hb:PSs X body tb)
  (hs: ∀ x,foldedSetIterable iter X.env x=pure x:=by intro _;rfl):PS X (.For tg iter body [] pos) (aLm wi g tb):=by
 intro pins s σ H D I h
 refine wpAny_For (thn (hi pins s σ H _ I h) fun v s1 h1=>thn h1 fun itv s2 h2=> ?_) hs
 obtain⟨it,fp,tn,J,H2,e,I2,T,st2,f2,W,⟨m0,w0⟩,turn⟩:=h2
 subst e
 -- what stays true of the iterator's objects through the loop
 have stat: ∀ {H':Hp},(∀ b∈fp,H' b=none)-> ∀ b∈fp,mO X pins H' b:=fun hn b hb=>⟨hn b hb,(f2 b hb).2⟩
 refine codeAny_forLoop_any (fun n s'=> ∃ i σ' H',Inv X pins σ' H' s'/\tn i s'.heap/\(∀ b∈fp,H' b=none)/\W i n σ' H') ?_ m0 ⟨0,σ,H2,I2,st2,fun b hb=>(f2 b hb).1,w0⟩
 rintro n s3 ⟨i,σ3,H3,I3,st3,fr3,w3⟩
 rcases turn i n σ3 H3 w3 with ⟨stop,qn⟩ | ⟨go,N,hN,step⟩
 ·refine wpAny_passesOwn hp (thn (T.done X rfl rfl rfl hc i pins s3 σ3 H3 X.xe I3 (stat fr3) st3 stop) fun r s4 hz_=> ?_)
  obtain⟨hr,I4⟩:=hz_
  subst hr
  exact wpAny_execs_nil ⟨σ3,H3,I4,qn⟩
 ·refine wpAny_passesOwn hp (thn (T.item X rfl rfl rfl hc i pins s3 σ3 H3 X.xe I3 (stat fr3) st3 go) fun r s4 hz_=> ?_)
  obtain⟨u,hr,h4⟩:=hz_
  subst hr
  refine wpAny_passesOwn hp (thn h4 fun _ s5 hz_=> ?_)
  obtain⟨x,H5,I5,r5,y5,st5,fr5⟩:=hz_
  have I5':=I5.pinned (stat fr5) (T.obj _ _ st5)
  refine wpAny_passesOwn hp (thn (hg _ s5 σ3 H5 x u _ I5' r5 (step x H5 y5)) fun _ s6 hz_=> ?_)
  obtain⟨σ6,H6,I6,q6⟩:=hz_
  refine wpAny_passesOwn hp (thn (hb _ s6 σ6 H6 _ I6 q6) fun f s7 q7=> ?_)
  have again: ∀ {σ7:St} {H7:Hp},Inv X (pins++dO fp s5.heap) σ7 H7 s7->N σ7 H7-> ∃ m,m<n/\ ∃ i σ' H',Inv X pins σ' H' s7/\tn i s7.heap/\(∀ b∈fp,H' b=none)/\W i m σ' H':=fun {σ7 H7} I7 n7=>by
   obtain⟨m',hm,w7⟩:=hN σ7 H7 n7
   refine⟨m',hm,i+1,σ7,H7,I7.unpinned,T.keep _ _ _ st5 fun b hb o e=>(I7.pin (b,o) (bt _ (bt _ (cN hb e)))).1,fun b hb=> ?_,w7⟩
   obtain⟨o,e,d⟩:=T.obj _ _ st5 b hb
   exact(I7.pin (b,o) (bt _ (bt _ (cN hb e)))).2.1
  cases f with
  | next=>obtain⟨σ7,H7,I7,n7⟩:=q7;exact again I7 n7
  | cont=>obtain⟨σ7,H7,I7,n7⟩:=q7;exact again I7 n7
  | brk=>obtain⟨σ7,H7,I7,q7⟩:=q7;exact⟨σ7,H7,I7.unpinned,q7⟩
  | ret v=>obtain⟨x7,σ7,H7,I7,r7,q7⟩:=q7;exact⟨x7,σ7,H7,I7.unpinned,r7,q7⟩
end
abbrev R2:=V->V->Hp->VK->Prop
def OpR (X:Cx) (f:Value->Value->Sem Value) (r:R2):Prop:=
 ∀ (pins:List (Addr×Obj)) (s:Shared) (σ:St) (H:Hp) (x y:V) (v u:Value) (Q:VK),Inv X pins σ H s->aP x v->aP y u->r x y H Q->
  wpAny (model X.prog X.w) X.A (f v u) (EP X pins σ Q) X.xe s
def UnR (X:Cx) (f:Value->Sem Value) (r:V->Hp->VK->Prop):Prop:=
 ∀ (pins:List (Addr×Obj)) (s:Shared) (σ:St) (H:Hp) (x:V) (v:Value) (Q:VK),Inv X pins σ H s->aP x v->r x H Q->
  wpAny (model X.prog X.w) X.A (f v) (EP X pins σ Q) X.xe s
def iQ (X:Cx) (f:Value) (r:List V->Hp->VK->Prop):Prop:=
 ∀ (pins:List (Addr×Obj)) (s:Shared) (σ:St) (H:Hp) (xs:List V) (us:List Value) (Q:VK),Inv X pins σ H s->aS xs us->r xs H Q->
  wpAny (model X.prog X.w) X.A (call f us) (EP X pins σ Q) X.xe s
noncomputable def tOp (r:R2) (ta tb:TE):TE:=fun σ H Q=>ta σ H fun x H1=>tb σ H1 fun y H2=>r x y H2 Q
noncomputable def tUn (r:V->Hp->VK->Prop) (ta:TE):TE:=fun σ H Q=>ta σ H fun x H1=>r x H1 Q
noncomputable def rI (C:Int->Int->Prop) (g:Int->Int->V):R2:=fun x y H Q=> ∃ i j,x= .int i/\y= .int j/\C i j/\Q (g i j) H
noncomputable def rI0 (g:Int->Int->V):R2:=fun x y H Q=> ∃ i j,x= .int i/\y= .int j/\Q (g i j) H
noncomputable def rU (g:Int->V):V->Hp->VK->Prop:=fun x H Q=> ∃ i,x= .int i/\Q (g i) H
section
variable {X:Cx} {a b c:Expr} {ta tb tc:TE} {pos:Pos}
theorem aMk (ha:PE X a ta) (hb:PE X b tb) {pins:List (Addr×Obj)} {s:Shared} {σ:St} {H:Hp} {R:V->V->Hp->Prop} (I:Inv X pins σ H s)
  (h:ta σ H fun x H1=>tb σ H1 fun y H2=>R x y H2) {Q:Value->Shared->Prop} {f:Value->Value->Sem Value}
  (hf: ∀ v u s2 x y H2,Inv X pins σ H2 s2->aP x v->aP y u->R x y H2->wpAny (model X.prog X.w) X.A (f v u) Q X.xe s2):
  wpAny (model X.prog X.w) X.A (eval a X.env) (fun v s₁=>wpAny (model X.prog X.w) X.A (eval b X.env) (fun u s₂=>wpAny (model X.prog X.w) X.A (f v u) Q X.xe s₂) X.xe s₁) X.xe s:=by
 refine thn (ha pins s σ H _ I h) fun v s1 hz_=> ?_
 obtain⟨x,H1,I1,r1,q1⟩:=hz_
 refine thn (hb pins s1 σ H1 _ I1 q1) fun u s2 hz_=> ?_
 obtain⟨y,H2,I2,r2,q2⟩:=hz_
 exact hf v u s2 x y H2 I2 r1 r2 q2
theorem aJk {op:UnaryOp} {r:V->Hp->VK->Prop} (ho:UnR X (unaryOp op) r) (ha:PE X a ta):PE X (.UnaryOp op a pos) (tUn r ta):=by
 intro pins s σ H Q I h
 exact UnaryOp_ (thn (ha pins s σ H _ I h) fun v s1 ⟨x,H1,I1,r1,q1⟩=>ho pins s1 σ H1 x v Q I1 r1 q1)
theorem opI {f:Value->Value->Sem Value} {C:Int->Int->Prop} {g:Int->Int->Int}
  (rule: ∀ (i j:Int) (t u:Tok) (s:Shared) (Q:Value->Shared->Prop) (E:Value->Shared->Prop),C i j->Q (.int (g i j) s.toks) { s with toks:=s.toks+1 }->wpAny (model X.prog X.w) X.A (f (.int i t) (.int j u)) Q E s):
  OpR X f (rI C fun i j=> .int (g i j)):=by
 intro pins s σ H x y v u Q I rx ry h
 obtain⟨i,j,rfl,rfl,hc,q⟩:=h
 obtain⟨t,rfl⟩:=rx
 obtain⟨t',rfl⟩:=ry
 exact rule i j t t' s _ _ hc ⟨.int (g i j),H,I.tok _,⟨_,rfl⟩,q⟩
theorem aFb {f:Value->Value->Sem Value} {g:Int->Int->Int}
  (rule: ∀ (i j:Int) (t u:Tok) (s:Shared) (Q:Value->Shared->Prop) (E:Value->Shared->Prop),Q (.int (g i j) s.toks) { s with toks:=s.toks+1 }->wpAny (model X.prog X.w) X.A (f (.int i t) (.int j u)) Q E s):
  OpR X f (rI0 fun i j=> .int (g i j)):=by
 intro pins s σ H x y v u Q I rx ry h
 obtain⟨i,j,rfl,rfl,q⟩:=h
 obtain⟨t,rfl⟩:=rx
 obtain⟨t',rfl⟩:=ry
 exact rule i j t t' s _ _ ⟨.int (g i j),H,I.tok _,⟨_,rfl⟩,q⟩
theorem aIv {f:Value->Value->Sem Value} {g:Int->Int->Bool}
  (rule: ∀ (i j:Int) (t u:Tok) (s:Shared) (Q:Value->Shared->Prop) (E:Value->Shared->Prop),Q (.bool (g i j)) s->wpAny (model X.prog X.w) X.A (f (.int i t) (.int j u)) Q E s):
  OpR X f (rI0 fun i j=> .bl (g i j)):=by
 intro pins s σ H x y v u Q I rx ry h
 obtain⟨i,j,rfl,rfl,q⟩:=h
 obtain⟨t,rfl⟩:=rx
 obtain⟨t',rfl⟩:=ry
 exact rule i j t t' s _ _ ⟨.bl (g i j),H,I,rfl,q⟩
def aMl (i j:Int):Prop:=0<j/\j<1073741824
def aMm (i j:Int):Prop:=0<=j/\j<=1000000/\i.natAbs<2 ^ 64
def aJl (i j:Int):Prop:=(-(2 ^ 64)<i/\i<2 ^ 64)\/(-(2 ^ 64)<j/\j<2 ^ 64)
theorem aJl.ok {i j:Int} (h:aJl i j):IntMulOk i j:=by
 rcases h with ⟨h1,h2⟩ | ⟨h1,h2⟩
 ·exact .of_left (intBits_le_64 h1 h2)
 ·exact .of_right (intBits_le_64 h1 h2)
theorem pU (k:Nat):(0:Int)<=2 ^ k:=by
 rw [two_pow_cast]
 exact Int.natCast_nonneg _
theorem aFc:OpR X (binaryOp .Add) (rI0 fun i j=> .int (i+j)):=aFb fun _ _ _ _ _ _ _ q=>add_int q
theorem aFd:OpR X (binaryOp .Sub) (rI0 fun i j=> .int (i - j)):=aFb fun _ _ _ _ _ _ _ q=>sub_int q
theorem aFe:OpR X (binaryOp .Mult) (rI aJl fun i j=> .int (i * j)):=opI fun _ _ _ _ _ _ _ hc q=>mul_int q hc.ok
theorem aAt:OpR X (binaryOp .FloorDiv) (rI aMl fun i j=> .int (i / j)):=opI fun i j _ _ _ _ _ hc q=>by
 have h1:(0:Int)<j:=hc.1
 have h2:j<1073741824:=hc.2
 exact floordiv_int (by omega) (by rw [Int.fdiv_eq_ediv_of_nonneg i (by omega)];exact q) (.inl (PyProof.noPylong_small (by omega)))
theorem aFf:OpR X (binaryOp .Mod) (rI (fun _ j=>0<j) fun i j=> .int (i % j)):=opI fun i j _ _ _ _ _ hc q=>by
 have h1:(0:Int)<j:=hc
 exact mod_int' (by omega) (by rw [Int.fmod_eq_emod_of_nonneg i (by omega)];exact q)
theorem aFg:OpR X (binaryOp .LShift) (rI aMm fun i j=> .int (i * 2 ^ j.toNat)):=opI fun _ _ _ _ _ _ _ hc q=>lshift_int_small hc.1 hc.2.1 hc.2.2 q
theorem aFh:OpR X (binaryOp .RShift) (rI (fun _ j=>0<=j) fun i j=> .int (i / 2 ^ j.toNat)):=opI fun i j _ _ _ _ _ hc q=>
 rshift_int hc (by rw [Int.fdiv_eq_ediv_of_nonneg i (pU _)];exact q)
theorem aFi:OpR X (binaryOp .BitAnd) (rI0 fun i j=> .int (Builtin.bitAnd i j)):=aFb fun _ _ _ _ _ _ _ q=>and_int q
theorem aJm:OpR X (binaryOp .BitOr) (rI0 fun i j=> .int (Builtin.bitOr i j)):=aFb fun _ _ _ _ _ _ _ q=>or_int q
theorem aFj:OpR X (binaryOp .BitXor) (rI0 fun i j=> .int (Builtin.bitXor i j)):=aFb fun _ _ _ _ _ _ _ q=>xor_int q
theorem unI {f:Value->Sem Value} {g:Int->Int}
  (rule: ∀ (i:Int) (t:Tok) (s:Shared) (Q:Value->Shared->Prop) (E:Value->Shared->Prop),Q (.int (g i) s.toks) { s with toks:=s.toks+1 }->wpAny (model X.prog X.w) X.A (f (.int i t)) Q E s):
  UnR X f (rU fun i=> .int (g i)):=by
 intro pins s σ H x v Q I rx h
 obtain⟨i,rfl,q⟩:=h
 obtain⟨t,rfl⟩:=rx
 exact rule i t s _ _ ⟨.int (g i),H,I.tok _,⟨_,rfl⟩,q⟩
theorem aFk:UnR X (unaryOp .USub) (rU fun i=> .int (-i)):=unI fun _ _ _ _ _ q=>neg_int q
end
section
variable {X:Cx} {a b c:Expr} {ta tb tc:TE} {pos:Pos}
theorem yN {pins:List (Addr×Obj)} {σ:St} {H:Hp} {s:Shared} {Q:VK} {k k':Bool} (I:Inv X pins σ H s) (q:Q (.bl k) H) (e:k=k'):EP X pins σ Q (.bool k') s:=by
 subst e
 exact⟨.bl k,H,I,rfl,q⟩
theorem aJn:OpR X (compareOp .Lt) (rI0 fun i j=> .bl (decide (i<j))):=aIv fun _ _ _ _ _ _ _ q=>lt_int q
theorem aJo:OpR X (compareOp .LtE) (rI0 fun i j=> .bl (decide (i<=j))):=aIv fun _ _ _ _ _ _ _ q=>le_int q
theorem aJp:OpR X (compareOp .Gt) (rI0 fun i j=> .bl (decide (j<i))):=aIv fun _ _ _ _ _ _ _ q=>gt_int q
theorem aJq:OpR X (compareOp .GtE) (rI0 fun i j=> .bl (decide (j<=i))):=aIv fun _ _ _ _ _ _ _ q=>ge_int q
theorem aFl:OpR X (compareOp .Is) (fun x y H Q=>y= .non/\Q (.bl (decide (x= .non))) H):=by
 intro pins s σ H x y v u Q I rx ry h
 obtain⟨rfl,q⟩:=h
 cases ry
 refine is_none_gen (yN I q ?_)
 cases x<;>first
  | (cases rx;rfl)
  | (obtain⟨t,rfl⟩:=rx;rfl)
theorem aAu:OpR X (compareOp .IsNot) (fun x y H Q=>y= .non/\Q (.bl (!decide (x= .non))) H):=by
 intro pins s σ H x y v u Q I rx ry h
 obtain⟨rfl,q⟩:=h
 cases ry
 refine isnot_none_gen (yN I q ?_)
 cases x<;>first
  | (cases rx;rfl)
  | (obtain⟨t,rfl⟩:=rx;rfl)
theorem aAv {op:CmpOp} {r:R2} (ho:OpR X (compareOp op) r) (ha:PE X a ta) (hb:PE X b tb) (hm:behindInMarks op b=false):PE X (.Compare a [op] [b] pos) (tOp r ta tb):=by
 intro pins s σ H Q I h
 exact wpAny_Compare1 (aMk ha hb I h fun v u s2 x y H2 I2 rx ry q=>ho pins s2 σ H2 x y v u Q I2 rx ry q) hm
noncomputable def aJr (t:TE):TT:=fun σ H Q=>t σ H fun x H'=> ∃ k,x= .bl k/\Q k H'
theorem aAw {op:CmpOp} {r:R2} (ho:OpR X (compareOp op) r) (ha:PE X a ta) (hb:PE X b tb) (hm:behindInMarks op b=false):PT X (.Compare a [op] [b] pos) (aJr (tOp r ta tb)):=by
 intro pins s σ H Q I h
 refine wpAny_isTrue_Compare1 (thn (ha pins s σ H _ I h) fun v s1 ⟨x,H1,I1,r1,q1⟩=>thn (hb pins s1 σ H1 _ I1 q1) fun u s2 ⟨y,H2,I2,r2,q2⟩=>
  thn (ho pins s2 σ H2 x y v u _ I2 r1 r2 q2) fun c s3 ⟨z,H3,I3,r3,k,e,q3⟩=> ?_) hm
 subst e
 cases r3
 exact wpAny_truthy_bool ⟨H3,I3,q3⟩
theorem kM:(sizeLine:Nat)<2 ^ 63:=by rw [sizeLine_eq];decide
theorem kN {x:V} {us:List Value} (r:aS [x] us): ∃ u,us=[u]/\aP x u:=by
 cases r with
 | cons r1 r2=>cases r2;exact⟨_,rfl,r1⟩
theorem aFm {x y:V} {us:List Value} (r:aS [x,y] us): ∃ u w',us=[u,w']/\aP x u/\aP y w':=by
 cases r with
 | cons r1 r2=>
  cases r2 with
  | cons r3 r4=>cases r4;exact⟨_,_,rfl,r1,r3⟩
theorem aFn (hc:X.calm=true):iQ X (.builtin "max") (fun xs H Q=> ∃ i j,xs=[.int i, .int j]/\Q (.int (if j > i then j else i)) H):=by
 intro pins s σ H xs us Q I r h
 obtain⟨i,j,rfl,q⟩:=h
 obtain⟨u,w',rfl,⟨t,rfl⟩,⟨t',rfl⟩⟩:=aFm r
 refine max_two_ints (I.ok.hd hc) fun h' tk k=>⟨_,H,I.kept k, ?_,q⟩
 by_cases hj:j > i
 ·rw [if_pos hj,if_pos hj];exact⟨_,rfl⟩
 ·rw [if_neg hj,if_neg hj];exact⟨_,rfl⟩
theorem aFo (hc:X.calm=true):iQ X (.builtin "min") (fun xs H Q=> ∃ i j,xs=[.int i, .int j]/\Q (.int (if j<i then j else i)) H):=by
 intro pins s σ H xs us Q I r h
 obtain⟨i,j,rfl,q⟩:=h
 obtain⟨u,w',rfl,⟨t,rfl⟩,⟨t',rfl⟩⟩:=aFm r
 refine min_two_ints (I.ok.hd hc) fun h' tk k=>⟨_,H,I.kept k, ?_,q⟩
 by_cases hj:j<i
 ·rw [if_pos hj,if_pos hj];exact⟨_,rfl⟩
 ·rw [if_neg hj,if_neg hj];exact⟨_,rfl⟩
theorem kO:iQ X (.type "int") (fun xs H Q=>(∃ i,xs=[.int i]/\Q (.int i) H)\/ ∃ k,xs=[.bl k]/\Q (.int (if k then 1 else 0)) H):=by
 intro pins s σ H xs us Q I r h
 rcases h with ⟨i,rfl,q⟩ | ⟨k,rfl,q⟩
 ·obtain⟨u,rfl,t,rfl⟩:=kN r
  exact call_int_int ⟨.int i,H,I,⟨_,rfl⟩,q⟩
 ·obtain⟨u,rfl,r1⟩:=kN r
  cases r1
  exact call_int_bool ⟨.int (if k then 1 else 0),H,I.tok _,⟨_,rfl⟩,q⟩
end
structure ObjM (h:Heap) (x dx C:Addr) (mA:Str->Option Value):Prop where
 obj:h.get? x=some (PySem.W.instObj C dx)
 ns:h.Ns1 dx mA
 ne:dx≠x
theorem rJ {h:Heap} {dx:Addr} {mA:Str->Option Value} (n:h.Ns1 dx mA): ∃ od,h.get? dx=some od/\ ∀ name,PySem.W.lookIn name od=some (mA name):=by
 obtain⟨o,es,ep,ho,hd,hk,_,hm⟩:=n
 refine⟨o,ho,fun name=> ?_⟩
 have e:=hm name
 unfold nsFind findBy at e
 rw [<-Array.find?_toList] at e
 unfold PySem.W.lookIn
 rw [hd]
 dsimp only
 split
 ·rename_i y q
  rw [q] at e
  exact congrArg some e
 ·rename_i q
  rw [q] at e
  have a:es.toList.any (·.refKey)=false:=by
   rw [List.any_eq_false]
   intro y hy
   obtain⟨z,t,hkey⟩:=hk y (Array.mem_toList_iff.mp hy)
   simp [DictEntry.refKey,hkey]
  have a': ¬ es.toList.any (·.refKey)=true:=by rw [a];exact bg
  rw [if_neg a']
  exact congrArg some e
theorem ObjM.look {h:Heap} {x dx C:Addr} {mA:Str->Option Value} (I:ObjM h x dx C mA): ∃ od,PySem.W.InstAt h x (PySem.W.instObj C dx) C (some od)/\ ∀ name,PySem.W.lookIn name od=some (mA name):=
 let ⟨od,ho,hl⟩:=rJ I.ns
 ⟨od,⟨I.obj,rfl,rfl,ho⟩,hl⟩
section
variable {prog:Program} {w:World} {A:Around} {E:Value->Shared->Prop} {s:Shared} {K:PySem.W.Frag} {x dx C f:Addr} {mA:Str->Option Value} {name:Str} {v:Value}
theorem aAx {expr:Bool} {Q:Value->Shared->Prop} (X:K.In s.heap) (I:ObjM s.heap x dx C mA) (hg:PySem.W.plainGet K C name=true) (hh:PySem.W.hasDictIn K C=true)
  (ha:PySem.W.findIn K (.ref C) name=some none) (hv:mA name=some v) (hv':PySem.W.handedIn v=true) (h:Q v { s with toks:=s.toks+1 }):
  wpAny (model prog w) A (getAttr (.ref x) name expr) Q E s:=by
 obtain⟨od,J,hl⟩:=I.look
 exact PySem.W.get_value X J (PySem.W.plainGet_of hg).1 (PySem.W.findObj_own hh ha rfl (by rw [hl,hv])) hv' h
theorem v0 {pl:Sem Bool} {Q:Value×List Value->Shared->Prop} (X:K.In s.heap) (I:ObjM s.heap x dx C mA) (hg:PySem.W.plainGet K C name=true)
  (hf:PySem.W.findIn K (.ref C) name=some (some (.ref f))) (ht:PySem.W.isFn K (.ref f)=true) (hv:mA name=none) (h:Q (.ref f,[.ref x]) s):
  wpAny (model prog w) A (getMethod (.ref x) name pl) Q E s:=by
 obtain⟨od,J,hl⟩:=I.look
 exact PySem.W.method_fn X J (PySem.W.plainGet_of hg).1 (PySem.W.plainGet_of hg).2 hf (beq_iff_eq.mp ht) (by show(PySem.W.lookIn name od).map (·.isSome)=some false;rw [hl,hv];rfl) h
theorem aAy {ns:List Str} {Q:Unit->Shared->Prop} (X:K.In s.heap) (I:ObjM s.heap x dx C mA)
  (hs:PySem.W.findIn K (.ref C) "__setattr__"=some (some (.builtin "object.__setattr__"))) (hp:PySem.W.plainOver K C=true) (ht:PySem.W.takerIn K C name=some none) (hh:PySem.W.hasDictIn K C=true)
  (hw:PySem.Within mA ns) (hsz:ns.length<=sizeLine)
  (h: ∀ h',ObjM h' x dx C (fun y=>if y=name then some v else mA y)->Heap.SameBut dx s.heap h'->Q () { s with heap:=h',toks:=s.toks+2 }):
  wpAny (model prog w) A (setAttr (.ref x) name v) Q E s:=by
 obtain⟨od,J,hl⟩:=I.look
 refine PySem.W.set_plain X J hs (PySem.W.osa_open (s:={ s with toks:=s.toks+1 }) (r:=none) X J hp ht fun b=> ?_)
 obtain⟨cd,hc,hd'⟩:=PySem.W.any_some hh
 have hx:s.heap.get? x=some ⟨.ref C,some dx, .plain, #[]⟩:=I.obj
 refine ae (af (ae (ae (wpAny_loadPart hx (ae (PySem.W.Looks.here (s:={ s with toks:=s.toks+1 }) (PySem.W.looks_clsIn X hc) ?_))))))
 rw [hd']
 refine af (a:=some dx) (ae (af (ae ?_)))
 refine wpAny_nsSet1 (s:={ s with toks:=s.toks+1 }) I.ns fun h' hn2 hs2=> ?_
 obtain⟨oD,esD,epD,hoD,hdD,hcD⟩:=hn2.count (PySem.Within.cons name v hw)
 refine ae (wpAny_lookBehind hoD (by rw [hdD];exact pastItsLine_dict (Nat.le_trans hcD (by rw [br];omega))) ?_)
 exact af (h _ ⟨(hs2.2 _ (Ne.symm I.ne)).trans I.obj,hn2,I.ne⟩ hs2)
theorem v5 {R:Result->Shared->Prop} {vs:List Value} {kw:List (Str×Value)} (X:K.In s.heap) (hm:PySem.W.makesIn K C=true)
  (hi:PySem.W.findIn K (.ref C) "__init__"=some (some (.ref f))) (hf:PySem.W.typeIn K (.ref f)=some (.type "function"))
  (h:codeAny (model prog w) (A.under (.builtin "type.__call__" ⟨.ref C::vs,kw⟩)) (.call (.ref f) ⟨.ref (s.heap.objs.size+1)::vs,kw⟩) (PySem.W.InitBack (s.heap.objs.size+1) R)
   { s with heap:=(s.heap.push PySem.W.emptyDict).push (PySem.W.instObj C s.heap.objs.size) }):
  codeAny (model prog w) A (.call (.ref C) ⟨vs,kw⟩) R s:=by
 obtain⟨hh,g,d,t,os⟩:=s
 exact PySem.W.make_core (PySem.W.makes_of X hm) (PySem.W.looks_findIn X hi) (fun self=>PySem.W.bind_fn X self hf) (.inl rfl) h
end
noncomputable def mE (f:Str) (v:V):List (Str×V)->List (Str×V)
 | []=>[(f,v)]
 | (g,x)::r=>if g=f then(g,v)::r else(g,x)::mE f v r
theorem gR (f g:Str) (v:V): ∀ fs:List (Str×V),(mE f v fs).lookup g=if g=f then some v else fs.lookup g
 | []=>by
  show List.lookup g [(f,v)]=_
  by_cases h:g=f
  ·have hb:(g==f)=true:=beq_iff_eq.mpr h
   simp only [List.lookup,hb,if_pos h]
  ·have hb:(g==f)=false:=beq_eq_false_iff_ne.mpr h
   simp only [List.lookup,hb,if_neg h]
 | (k,x)::r=>by
  have ih:=gR f g v r
  rw [show mE f v ((k,x)::r)=(if k=f then(k,v)::r else(k,x)::mE f v r) from rfl]
  by_cases hk:k=f
  ·rw [if_pos hk]
   by_cases h:g=k
   ·have hb:(g==k)=true:=beq_iff_eq.mpr h
    simp only [List.lookup,hb,if_pos (h.trans hk)]
   ·have hb:(g==k)=false:=beq_eq_false_iff_ne.mpr h
    simp only [List.lookup,hb,if_neg (fun e:g=f=>h (e.trans hk.symm))]
  ·rw [if_neg hk]
   by_cases h:g=k
   ·have hb:(g==k)=true:=beq_iff_eq.mpr h
    simp only [List.lookup,hb,if_neg (fun e:g=f=>hk (h.symm.trans e))]
   ·have hb:(g==k)=false:=beq_eq_false_iff_ne.mpr h
    simp only [List.lookup,hb]
    exact ih
theorem gS (f:Str) (v:V): ∀ fs:List (Str×V),f∈(mE f v fs).map (·.1)/\ ∀ g,g∈fs.map (·.1)->g∈(mE f v fs).map (·.1)
 | []=>⟨by simp [mE],fun g h=>by simp at h⟩
 | (k,x)::r=>by
  obtain⟨i1,i2⟩:=gS f v r
  rw [show mE f v ((k,x)::r)=(if k=f then(k,v)::r else(k,x)::mE f v r) from rfl]
  by_cases hk:k=f
  ·rw [if_pos hk]
   subst hk
   exact⟨by simp,fun g h=>by simpa using h⟩
  ·rw [if_neg hk]
   refine⟨?_,fun g h=> ?_⟩
   ·rw [List.map_cons]
    exact List.mem_cons_of_mem _ i1
   ·rw [List.map_cons] at h ⊢
    rcases av.mp h with e | e
    ·exact av.mpr (.inl e)
    ·exact List.mem_cons_of_mem _ (i2 g e)
theorem gT (f:Str) (v:V): ∀ fs:List (Str×V),(mE f v fs).length<=fs.length+1
 | []=>by simp [mE]
 | (k,x)::r=>by
  have ih:=gT f v r
  rw [show mE f v ((k,x)::r)=(if k=f then(k,v)::r else(k,x)::mE f v r) from rfl]
  by_cases hk:k=f
  ·rw [if_pos hk,br,br];omega
  ·rw [if_neg hk,br,br];omega
theorem jE.some_of {v:V} {o:Option Value} (r:jE (some v) o): ∃ u,o=some u/\aP v u:=by
 cases o with
 | none=>exact(show False from r).elim
 | some u=>exact⟨u,rfl,r⟩
theorem jE.none_of {o:Option Value} (r:jE none o):o=none:=by
 cases o with
 | none=>rfl
 | some u=>exact(show False from r).elim
theorem rL {v:V} {u:Value} (r:aP v u):PySem.W.handedIn u=true:=by
 cases v with
 | non=>cases (show u=Value.none from r);rfl
 | bl b=>cases (show u=Value.bool b from r);rfl
 | int i=>obtain⟨t,e⟩:=(show ∃ t,u=Value.int i t from r);cases e;rfl
 | str x=>obtain⟨t,e⟩:=(show ∃ t,u=Value.str x t from r);cases e;rfl
 | byt b=>obtain⟨t,e⟩:=(show ∃ t,u=Value.bytes b t from r);cases e;rfl
 | flt b=>obtain⟨t,e⟩:=(show ∃ t,u=Value.float b t from r);cases e;rfl
 | ref a=>cases (show u=Value.ref a from r);rfl
 | ty n=>cases (show u=Value.type n from r);rfl
section
variable {P:Program} {w:World} {H H':Hp} {h h':Heap} {a C dx:Addr} {fs fs':List (Str×V)}
theorem mP (hok:HOk P w H h) (e:H a=some (.ins C dx fs)): ∃ mA,ObjM h a dx C mA/\(∀ f,jE (fs.lookup f) (mA f))/\PySem.Within mA (fs.map (·.1))/\fs.length<=1000/\H dx=some (.own a):=by
 obtain⟨d,z,ne,ob,mA,n,r,q⟩:=(show ObjOk P w H h a (.ins C dx fs) from hok a _ e)
 exact⟨mA,⟨ob,n,ne⟩,r,q,z,d⟩
end
structure Cls (K:PySem.W.Frag) (C:Addr):Prop where
 pg:PySem.W.plainGet K C Str.empty=true
 hd:PySem.W.hasDictIn K C=true
 po:PySem.W.plainOver K C=true
 sa:PySem.W.findIn K (.ref C) "__setattr__"=some (some (.builtin "object.__setattr__"))
theorem Cls.get {K:PySem.W.Frag} {C:Addr} (c:Cls K C) (f:Str):PySem.W.plainGet K C f=true:=c.pg
def eC (K:PySem.W.Frag) (C:Addr) (f:Str):Prop:=PySem.W.findIn K (.ref C) f=some none
theorem eC.taker {K:PySem.W.Frag} {C:Addr} {f:Str} (n:eC K C f):PySem.W.takerIn K C f=some none:=by
 unfold PySem.W.takerIn
 rw [show PySem.W.findIn K (.ref C) f=some none from n]
 rfl
structure Meth (K:PySem.W.Frag) (C:Addr) (m:Str) (f:Addr):Prop where
 at_:PySem.W.findIn K (.ref C) m=some (some (.ref f))
 fn:PySem.W.isFn K (.ref f)=true
 kp:PySem.W.keepIn K (.ref f)=true
section
variable {X:Cx} {pins:List (Addr×Obj)} {σ:St} {H:Hp} {s:Shared} {a C dx:Addr} {fs:List (Str×V)} {f:Str} {v:V} {A:Around} {E:Value->Shared->Prop}
theorem pV {b:Bool} {Q:Value->Shared->Prop} (I:Inv X pins σ H s) (e:H a=some (.ins C dx fs)) (c:Cls X.K C) (n:eC X.K C f) (l:fs.lookup f=some v)
  (h: ∀ u s',Inv X pins σ H s'->aP v u->Q u s'):wpAny (model X.prog X.w) A (getAttr (.ref a) f b) Q E s:=by
 obtain⟨mA,O,r,_,_,_⟩:=mP I.hok e
 obtain⟨u,hu,ru⟩:=jE.some_of (v:=v) (o:=mA f) (by rw [<-l];exact r f)
 exact aAx I.kIn O (c.get f) c.hd n hu (rL ru) (h u _ (I.tok _) ru)
theorem dX {m:Str} {g:Addr} {pl:Sem Bool} {Q:Value×List Value->Shared->Prop} (I:Inv X pins σ H s) (e:H a=some (.ins C dx fs)) (c:Cls X.K C) (k:Meth X.K C m g) (l:fs.lookup m=none)
  (h:Q (.ref g,[.ref a]) s):wpAny (model X.prog X.w) A (getMethod (.ref a) m pl) Q E s:=by
 obtain⟨mA,O,r,_,_,_⟩:=mP I.hok e
 have hn:mA m=none:=jE.none_of (by rw [<-l];exact r m)
 exact v0 I.kIn O (c.get m) k.at_ k.fn hn h
theorem pW {y:V} {u:Value} {Q:Unit->Shared->Prop} (I:Inv X pins σ H s) (e:H a=some (.ins C dx fs)) (c:Cls X.K C) (n:eC X.K C f) (hl:fs.length<1000) (ry:aP y u)
  (h: ∀ s',Inv X pins σ (upd H a (.ins C dx (mE f y fs))) s'->Q () s'):wpAny (model X.prog X.w) A (setAttr (.ref a) f u) Q E s:=by
 obtain⟨mA,O,r,wi,_,ho⟩:=mP I.hok e
 have hz:(fs.map (·.1)).length<=sizeLine:=by rw [aq,sizeLine_eq];omega
 refine aAy I.kIn O c.sa c.po n.taker c.hd wi hz fun h' O' sb=>h _ ?_
 have hd: ∃ o,h'.get? dx=some o:=let ⟨o,_,_,e',_⟩:=O'.ns;⟨o,e'⟩
 refine I.write (x:=a) (e:=dx) (by rw [e];exact True.intro) (.inr ho) (fun b q hb z=>(sb.2 b hb).trans z) hd ?_
 refine⟨by rw [aA O.ne];exact ho, ?_,O.ne,O'.obj,_,O'.ns,fun g=> ?_,fun g hg=> ?_⟩
 ·have:=gT f y fs;omega
 ·show jE ((mE f y fs).lookup g) (if g=f then some u else mA g)
  rw [gR]
  by_cases q:g=f
  ·rw [if_pos q,if_pos q];exact ry
  ·rw [if_neg q,if_neg q];exact r g
 ·by_cases q:g=f
  ·rw [q];exact(gS f y fs).1
  ·refine(gS f y fs).2 g (wi g fun z=>hg ?_)
   show(if g=f then some u else mA g)=none
   rw [if_neg q];exact z
theorem Inv.made (I:Inv X pins σ H s):Inv X pins σ (upd (upd H s.heap.objs.size (.own (s.heap.objs.size+1))) (s.heap.objs.size+1) (.ins C s.heap.objs.size []))
  { s with heap:=(s.heap.push PySem.W.emptyDict).push (PySem.W.instObj C s.heap.objs.size) }:=by
 have e1:(s.heap.push PySem.W.emptyDict).get? s.heap.objs.size=some PySem.W.emptyDict:=ah s.heap rfl
 have e2:((s.heap.push PySem.W.emptyDict).push (PySem.W.instObj C s.heap.objs.size)).get? (s.heap.objs.size+1)=some (PySem.W.instObj C s.heap.objs.size):=by
  have:=ah (s.heap.push PySem.W.emptyDict) (o:=PySem.W.instObj C s.heap.objs.size) rfl
  rwa [aj] at this
 have e3:(s.heap.push PySem.W.emptyDict).Ns s.heap.objs.size (fun _=>none):=⟨PySem.W.emptyDict, #[],_,e1,rfl,(fun e he=>absurd he (by simp)),fun _=>rfl⟩
 have I1:=I.laid (a:=s.heap.objs.size) (o:= .own (s.heap.objs.size+1)) (h':=s.heap.push PySem.W.emptyDict) (t':=s.toks) (fun b u q=>ag _ q) (ak _) ⟨_,e1⟩
 refine I1.laid (a:=s.heap.objs.size+1) (o:= .ins C s.heap.objs.size []) (t':=s.toks) (fun b u q=>ag _ q) (Nat.le_of_eq (aj _ _)) ?_
 have ne:s.heap.objs.size≠s.heap.objs.size+1:=bj (Nat.lt_succ_self _)
 refine⟨by rw [aA ne,aC],bu _,ne,e2,fun _=>none,(Heap.Ns1.of_empty e3).at fun o q=>ag _ q,fun _=>True.intro,fun y hy=>absurd rfl hy⟩
theorem aAz {prog:Program} {w:World} {env:Env} {e:Expr} {f:Str} {pos:Pos} {s:Shared} {Q:Value->Shared->Prop} (hb:attributeBase e f env (eval e env)=eval e env)
  (h:wpAny (model prog w) A (eval e env) (fun o s₁=>wpAny (model prog w) A (getAttr o f true) Q E s₁) E s):wpAny (model prog w) A (eval (.Attribute e f pos) env) Q E s:=
 Attribute_any_ h (by rw [arm_eval_Attribute,hb])
end
noncomputable def aIw (K:PySem.W.Frag) (ta:TE) (f:Str):TE:=fun σ H Q=>ta σ H fun x H1=> ∃ a C dx fs v,x= .ref a/\H1 a=some (.ins C dx fs)/\Cls K C/\eC K C f/\fs.lookup f=some v/\Q v H1
noncomputable def aMn (K:PySem.W.Frag) (ta tv:TE) (f:Str):TS:=fun D σ H=>tv σ H fun y H1=>ta σ H1 fun x H2=> ∃ a C dx fs,x= .ref a/\H2 a=some (.ins C dx fs)/\Cls K C/\eC K C f/\fs.length<1000/\
 D.nx σ (upd H2 a (.ins C dx (mE f y fs)))
section
variable {X:Cx} {o e value:Expr} {f:Str} {pos pos' tpos:Pos} {ta tv:TE}
theorem eE (he:PE X e ta) (hb:attributeBase e f X.env (eval e X.env)=eval e X.env):PE X (.Attribute e f pos) (aIw X.K ta f):=by
 intro pins s σ H Q I h
 refine aAz hb (thn (he pins s σ H _ I h) fun u s1 hz_=> ?_)
 obtain⟨x,H1,I1,rx,a,C,dx,fs,v,ex,ea,c,n,l,q⟩:=hz_
 subst ex
 obtain rfl:u=Value.ref a:=rx
 exact pV I1 ea c n l fun u' s2 I2 ru=>⟨v,H1,I2,ru,q⟩
theorem n6 (ha:PE X o ta) (hv:PE X value tv) (hs:swapsWith value (some (.Attribute o f pos')) pos.line X.env=pure false):PS X (.Assign [.Attribute o f pos'] value pos) (aMn X.K ta tv f):=by
 intro pins s σ H D I h
 refine plainObj_wpAny_Assign_Attribute (thn (hv pins s σ H _ I h) fun u s1 ⟨y,H1,I1,ry,q⟩=>thn (ha pins s1 σ H1 _ I1 q) fun ov s2 ⟨x,H2,I2,rx,a,C,dx,fs,ex,ea,c,n,l,q2⟩=> ?_) hs
 subst ex
 obtain rfl:ov=Value.ref a:=rx
 exact pW I2 ea c n l ry fun s3 I3=>⟨σ,_,I3,q2⟩
end
section
variable {X:Cx} {pins:List (Addr×Obj)} {σ:St} {H:Hp} {s:Shared} {A:Around} {E:Value->Shared->Prop} {Q:Value->Shared->Prop} {c:Value} {b:Bool}
end
structure Room (k:Nat) (A:Around):Prop where
 hd:A.handled=none
 dp:A.depth+3 * k+5<recursionLimit
 un:A.units+16 * k+200<cLine
theorem Room.mono {j k:Nat} {A:Around} (r:Room k A) (h:j<=k):Room j A:=⟨r.hd,by have:=r.dp;omega,by have:=r.un;omega⟩
theorem Room.deeper {k:Nat} {A:Around} (r:Room (k+1) A) (env:Env):Room k (A.deeper env):=
 ⟨r.hd,by have:=r.dp;show A.depth+1+3 * k+5<_;omega,by have:=r.un;show A.units+3+16 * k+200<_;omega⟩
theorem pX {A:Around} {C:Addr} {us:List Value} {kw:List (Str×Value)}:(A.under (.builtin "type.__call__" ⟨.ref C::us,kw⟩)).depth=A.depth+1:=by
 first | rfl | simp [Around.under,Code.weight,Code.isCreation,Code.isGuard,Code.isCaller,Code.frames,Code.isFrame,guardIds]
theorem pY {A:Around} {C:Addr} {us:List Value} {kw:List (Str×Value)}:(A.under (.builtin "type.__call__" ⟨.ref C::us,kw⟩)).units=A.units+1:=by
 first | rfl | simp [Around.under,Code.cUnits,Code.frames,Code.isFrame]
theorem Room.make {k:Nat} {A:Around} (r:Room (k+1) A) (C:Addr) (us:List Value) (kw:List (Str×Value)):Room k (A.under (.builtin "type.__call__" ⟨.ref C::us,kw⟩)):=
 ⟨r.hd,by have:=r.dp;rw [pX];omega,by have:=r.un;rw [pY];omega⟩
theorem Room.depth {k:Nat} {A:Around} (r:Room k A):A.depth<recursionLimit:=by have:=r.dp;omega
theorem Room.units {k:Nat} {A:Around} (r:Room k A):A.units+64<cLine:=by have:=r.un;omega
noncomputable def aEh:TA:=fun _ H Q=>Q [] H
noncomputable def mQ (ta:TE) (tr:TA):TA:=fun σ H Q=>ta σ H fun x H1=>tr σ H1 fun xs H2=>Q (x::xs) H2
section
variable {X:Cx} {e:Expr} {es:List Expr} {te:TE} {t:TA} {pos:Pos}
theorem cI:PA X [] aEh:=fun _ _ _ _ H Q I h=>Calls.spliced_nil ⟨[],H,I, .nil,h⟩
theorem bU (ha:PE X e te) (hr:PA X es t) (hs:starEach (e::es) X.env=(false,eval e X.env)::starEach es X.env:=by rfl):PA X (e::es) (mQ te t):=by
 intro pos pins s σ H Q I h
 rw [hs]
 show wpAny _ _ (spliced ((false,eval e X.env)::backTo pos (starEach es X.env))) _ _ s
 refine Calls.spliced_cons (thn (ha pins s σ H _ I h) fun u s1 hz_=> ?_)
 obtain⟨x,H1,I1,r1,q1⟩:=hz_
 exact thn (hr pos pins s1 σ H1 _ I1 q1) fun us s2 ⟨xs,H2,I2,r2,q2⟩=>⟨x::xs,H2,I2, .cons r1 r2,q2⟩
noncomputable def aMo (t:TA):TE:=fun σ H Q=>t σ H fun xs H1=>xs.length<=sizeLine/\ ∀ p,H1 p=none->Q (.ref p) (upd H1 p (.tup xs))
noncomputable def aMp (t:TA):TE:=fun σ H Q=>t σ H fun xs H1=>xs.length<=sizeLine/\ ∀ p,H1 p=none->Q (.ref p) (upd H1 p (.lst xs))
theorem aFp {x1} (h:PA X es t):PE X (.Tuple es x1 pos) (aMo t):=by
 intro pins s σ H Q I hq
 refine wpAny_Tuple_spliced (thn (h pos pins s σ H _ I hq) fun us s1 ⟨xs,H1,I1,r,z,q⟩=>⟨by rw [<-r.length];exact z, ?_⟩)
 have hf:H1 s1.heap.objs.size=none:=I1.hok.fresh (ak _)
 refine⟨.ref s1.heap.objs.size,upd H1 s1.heap.objs.size (.tup xs),I1.laid (t':=s1.toks) (fun b u e=>ag _ e) (ak _) ?_,rfl,q _ hf⟩
 exact⟨z,us,r,⟨_,ah _ rfl,rfl,_,rfl⟩,⟨_,ah _ rfl,rfl⟩⟩
theorem n9 (h:PA X es t):PE X (.List es pos) (aMp t):=by
 intro pins s σ H Q I hq
 refine wpAny_List_spliced (thn (h pos pins s σ H _ I hq) fun us s1 ⟨xs,H1,I1,r,z,q⟩=>⟨by rw [<-r.length];exact z, ?_⟩)
 have hf:H1 s1.heap.objs.size=none:=I1.hok.fresh (ak _)
 refine⟨.ref s1.heap.objs.size,upd H1 s1.heap.objs.size (.lst xs),I1.laid (t':=s1.toks) (fun b u e=>ag _ e) (ak _) ?_,rfl,q _ hf⟩
 exact⟨z,us,0,r,ah _ rfl⟩
end
abbrev Sp:=List V->Hp->VK->XK->Prop
abbrev CXT:=List Env->Hp->Shared->XK->Value->Shared->Prop
structure Env0 (P:Program) (w:World) (K:PySem.W.Frag) (mg:Str->Option Value) (base:Heap) (A:Around) (outer:List Env) (s:Shared) (H:Hp):Prop where
 frames:A.frames=some outer
 mod:Mod K mg base
 bs: ∀ b o,base.get? b=some o->s.heap.get? b=some o/\H b=none
 bsz:base.objs.size<=s.heap.objs.size
 funs:s.heap.FunFrames base outer
 frf: ∀ b∈frs outer,H b=none
 hok:HOk P w H s.heap
 bare:AllBare s.gens
def CE (outer:List Env) (P:Program) (w:World) (H:Hp) (s:Shared) (Q:VK) (u:Value) (s':Shared):Prop:=
 ∃ v H',s'.os=s.os/\AllBare s'.gens/\Un (frs outer) [] H H' s.heap s'.heap/\HOk P w H' s'.heap/\aP v u/\Q v H'
def CR (CX:CXT) (outer:List Env) (P:Program) (w:World) (H:Hp) (s:Shared) (Q:VK) (E:XK) (r:Result) (s':Shared):Prop:=
 match r with
 | .ok (.ret u)=>CE outer P w H s Q u s'
 | .ok _=>False
 | .error e=>CX outer H s E e s'
structure FnOk (P:Program) (w:World) (K:PySem.W.Frag) (mg:Str->Option Value) (base:Heap) (CX:CXT) (k:Nat) (f:Addr) (fd:FuncData) (ps:List Str) (sp:Sp):Prop where
 len: ∀ vs H Q E,sp vs H Q E->vs.length=ps.length
 run: ∀ (A:Around) (outer:List Env) (s:Shared) (H:Hp) (args:Args) (us:List Value) (vs:List V) (Q:VK) (E:XK),Room k A->Env0 P w K mg base A outer s H->BindsTo s fd args (ps.zip us)->aS vs us->sp vs H Q E->
  codeAny (model P w) A (.call (.ref f) args) (CR CX outer P w H s Q E) s
theorem Env0.make {P:Program} {w:World} {K:PySem.W.Frag} {mg:Str->Option Value} {base:Heap} {A:Around} {outer:List Env} {s:Shared} {H:Hp} (e:Env0 P w K mg base A outer s H) (C:Addr) (us:List Value) (kw:List (Str×Value)):
  Env0 P w K mg base (A.under (.builtin "type.__call__" ⟨.ref C::us,kw⟩)) outer s H:=⟨by first | exact e.frames | (simpa [Around.under,Code.envs,Code.isFrame,pushEnvs] using e.frames),e.mod,e.bs,e.bsz,e.funs,e.frf,e.hok,e.bare⟩
section
variable {X:Cx} {pins:List (Addr×Obj)} {σ:St} {H:Hp} {s s':Shared}
theorem Inv.env0 (I:Inv X pins σ H s):Env0 X.prog X.w X.K X.mg X.base X.A X.stack s H:=
 ⟨I.ok.frames,I.ok.mod,I.bs,Nat.le_trans I.ok.bsz I.sz,I.stack,I.stkFree,I.hok,I.bare⟩
theorem Inv.after {Q:VK} {u:Value} (I:Inv X pins σ H s) (h:CE X.stack X.prog X.w H s Q u s'):EP X pins σ Q u s':=by
 obtain⟨v,H',os,bare,un,hok,r,q⟩:=h
 obtain⟨hh,g,d,t,os'⟩:=s'
 obtain rfl:os'=s.os:=os
 exact⟨v,H',I.call (h':=hh) (g':=g) (d':=d) (t':=t) (ch:=[]) un hok bare (fun b z=>absurd z (by simp)),r,q⟩
end
noncomputable def aJs (C:Addr) (sp:Sp) (dvs:List V) (E:XK) (t:TA):TE:=fun σ H Q=>t σ H fun vs H1=> ∀ x dx,H1 x=none->H1 dx=none->dx≠x->
 sp (.ref x::(vs++dvs)) (upd (upd H1 dx (.own x)) x (.ins C dx [])) (fun v H2=>v= .non/\Q (.ref x) H2) E
def dB (K:PySem.W.Frag) (fd:FuncData) (ps:List Str) (ds:List Value):Prop:=
 ∀ (s:Shared) (us:List Value),K.In s.heap->(us++ds).length=ps.length->BindsTo s fd ⟨us,[]⟩ (ps.zip (us++ds))
theorem dB.all {K:PySem.W.Frag} {fd:FuncData} {ps:List Str} (h: ∀ us:List Value,us.length=ps.length->bindArgs fd ⟨us,[]⟩=pure (ps.zip us)):dB K fd ps []:=fun s us _ hl=>by
 rw [List.append_nil] at hl ⊢
 exact .of_eq (h us hl)
def yO (CX:CXT) (X:Cx) (E:XK):Prop:= ∀ (pins:List (Addr×Obj)) (σ:St) (H:Hp) (s:Shared) (e:Value) (s':Shared),Inv X pins σ H s->CX X.stack H s E e s'->X.xe e s'
section
variable {X:Cx} {CX:CXT} {k:Nat} {f C:Addr} {fd:FuncData} {ps:List Str} {sp:Sp} {dvs:List V} {ds:List Value} {E:XK} {x m:Str} {p pos apos:Pos} {e o:Expr} {es:List Expr} {ta:TE} {t:TA}
structure Mk (K:PySem.W.Frag) (C f:Addr):Prop where
 makes:PySem.W.makesIn K C=true
 init:PySem.W.findIn K (.ref C) "__init__"=some (some (.ref f))
 fn:PySem.W.isFn K (.ref f)=true
 kp:PySem.W.keepIn K (.ref C)=true
theorem v6 {pins:List (Addr×Obj)} {σ:St} {H:Hp} {s:Shared} {Q:VK} {us:List Value} {vs:List V} (M:Mk X.K C f) (F:FnOk X.prog X.w X.K X.mg X.base CX k f fd ps sp) (hr:Room (k+1) X.A) (hb:dB X.K fd ps ds) (hd:aS dvs ds)
  (hx:yO CX X E) (I:Inv X pins σ H s) (r:aS vs us)
  (h: ∀ x dx,H x=none->H dx=none->dx≠x->sp (.ref x::(vs++dvs)) (upd (upd H dx (.own x)) x (.ins C dx [])) (fun v H2=>v= .non/\Q (.ref x) H2) E):
  wpAny (model X.prog X.w) X.A (call (.ref C) us) (EP X pins σ Q) X.xe s:=by
 have hq:=h (s.heap.objs.size+1) s.heap.objs.size (I.hok.fresh (Nat.le_succ _)) (I.hok.fresh (ak _)) (bj (Nat.lt_succ_self _))
 have I2:=Inv.made (C:=C) I
 have r2:aS (V.ref (s.heap.objs.size+1)::(vs++dvs)) (Value.ref (s.heap.objs.size+1)::(us++ds)):= .cons rfl (r.append hd)
 have hl:(Value.ref (s.heap.objs.size+1)::us++ds).length=ps.length:=by
  have e:=r2.length
  rw [F.len _ _ _ _ hq] at e
  exact e.symm
 refine wpAny_call (v5 (f:=f) I.kIn M.makes M.init (beq_iff_eq.mp M.fn) (codeAny_mono (F.run _ X.stack _ _ ⟨Value.ref (s.heap.objs.size+1)::us,[]⟩ (Value.ref (s.heap.objs.size+1)::(us++ds)) _ _ E (hr.make C us [])
  (I2.env0.make C us []) (hb _ (Value.ref (s.heap.objs.size+1)::us) I2.kIn hl) r2 hq) fun r s' hq'=> ?_))
 cases r with
 | error e=>exact hx pins σ _ _ e s' I2 hq'
 | ok fl=>
  cases fl with
  | ret u=>
   obtain⟨v,H',I3,rv,ev,q3⟩:=I2.after hq'
   subst ev
   exact⟨rv,⟨V.ref (s.heap.objs.size+1),H',I3,rfl,q3⟩⟩
  | next=>exact ba hq'
  | brk=>exact ba hq'
  | cont=>exact ba hq'
theorem v7 (M:Mk X.K C f) (F:FnOk X.prog X.w X.K X.mg X.base CX k f fd ps sp) (hr:Room (k+1) X.A) (hg:Gl X x) (hm:X.mg x=some (.ref C)) (hb:dB X.K fd ps ds) (hd:aS dvs ds) (hx:yO CX X E)
  (hdb:(x==("__debug__":Str))=false:=by decide):PE X (.Call (.Name x p) [] [] pos) (aJs C sp dvs E aEh):=by
 intro pins s σ H Q I h
 refine wpAny_Call_Name_kw (eM I hg hm ?_ hdb)
 exact PySem.W.callWith_K0 I.kIn M.kp (v6 (us:=[]) M F hr hb hd hx I .nil h)
end
section
variable {X:Cx} {CX:CXT} {k:Nat} {f C:Addr} {fd:FuncData} {ps ks:List Str} {sp:Sp} {E:XK} {x m:Str} {p pos apos kpos:Pos} {e o:Expr} {es:List Expr} {kws:List Keyword} {te ta:TE} {t tk:TA} {nm:Option Str}
variable {g:List Value->List Value->List Value} {gV:List V->List V->List V}
end
structure FnScope (N P:List Str) (sc:Scope):Prop where
 kind:sc.kind= .function
 co:sc.isCoroutine=false
 gen:sc.isGenerator=false
 nd:N.Nodup
 pre:N.take P.length=P
 par: ∀ x∈P,sc.names.lookup x=some .local\/sc.names.lookup x=some .cell
 nofree: ∀ y∈sc.names,y.2≠ .free
theorem kP {kindOf:Str->Option NameKind} {x:Str}: ∀ {binds:List (Str×Value)} {m:Str->Option Value},(∀ v,(x,v)∉binds)->bindL kindOf binds m x=m x
 | [],_,_=>rfl
 | (n,v)::r,m,h=>by
  unfold bindL
  rw [kP fun w hw=>h w (List.mem_cons_of_mem _ hw)]
  split
  ·have:x≠n:=by rintro rfl;exact h v List.mem_cons_self
   simp [this]
  ·rfl
theorem kQ {kindOf:Str->Option NameKind} {x:Str}: ∀ {binds:List (Str×Value)} {m:Str->Option Value},(∀ v,(x,v)∉binds)->bindC kindOf binds m x=m x
 | [],_,_=>rfl
 | (n,v)::r,m,h=>by
  unfold bindC
  rw [kQ fun w hw=>h w (List.mem_cons_of_mem _ hw)]
  split
  ·rfl
  ·have:x≠n:=by rintro rfl;exact h v List.mem_cons_self
   simp [this]
theorem kR {kindOf:Str->Option NameKind} {x:Str} {v:Value}: ∀ {P:List Str} {vs:List Value} {i:Nat} {m:Str->Option Value},P.Nodup->P[i]? =some x->vs[i]? =some v->kindOf x=some .local->
  bindL kindOf (P.zip vs) m x=some v
 | [],_,_,_,_,h,_,_=>by simp at h
 | _::_,[],_,_,_,_,h,_=>by simp at h
 | p::P,w::vs,0,m,nd,h1,h2,hk=>by
  simp at h1 h2;subst h1;subst h2
  show bindL kindOf ((p,w)::P.zip vs) m p=_
  unfold bindL
  rw [kP fun v hv=>(List.nodup_cons.mp nd).1 (List.of_mem_zip hv).1,if_pos hk]
  simp
 | p::P,w::vs,i+1,m,nd,h1,h2,hk=>by
  show bindL kindOf ((p,w)::P.zip vs) m x=_
  unfold bindL
  exact kR (i:=i) (List.nodup_cons.mp nd).2 (by simpa using h1) (by simpa using h2) hk
theorem kT {kindOf:Str->Option NameKind} {x:Str} {v:Value}: ∀ {P:List Str} {vs:List Value} {i:Nat} {m:Str->Option Value},P.Nodup->P[i]? =some x->vs[i]? =some v->kindOf x≠some .local->
  bindC kindOf (P.zip vs) m x=some v
 | [],_,_,_,_,h,_,_=>by simp at h
 | _::_,[],_,_,_,_,h,_=>by simp at h
 | p::P,w::vs,0,m,nd,h1,h2,hk=>by
  simp at h1 h2;subst h1;subst h2
  show bindC kindOf ((p,w)::P.zip vs) m p=_
  unfold bindC
  rw [kQ fun v hv=>(List.nodup_cons.mp nd).1 (List.of_mem_zip hv).1,if_neg hk]
  simp
 | p::P,w::vs,i+1,m,nd,h1,h2,hk=>by
  show bindC kindOf ((p,w)::P.zip vs) m x=_
  unfold bindC
  exact kT (i:=i) (List.nodup_cons.mp nd).2 (by simpa using h1) (by simpa using h2) hk
noncomputable def start (N:List Str) (vs:List V):St:=vs.map some++ao (N.length - vs.length) none
noncomputable def kU (CX:CXT) (P:Program) (w:World) (K:PySem.W.Frag) (mg:Str->Option Value) (base:Heap) (N:List Str) (qual:Str) (scope:Scope) (f:Addr) (cd:Value) (A:Around) (outer:List Env) (s:Shared) (H:Hp) (E:XK):Cx where
 prog:=P
 w:=w
 K:=K
 mg:=mg
 base:=base
 A:=A.deeper (envOfC qual scope s.heap.objs.size f cd)
 N:=N
 s₀:=s
 H₀:=H
 env:=envOfC qual scope s.heap.objs.size f cd
 outer:=outer
 stack:=envOfC qual scope s.heap.objs.size f cd::outer
 ex:=[]
 calm:=true
 fn:=fun _=>true
 pn:=[]
 xe:=fun e s'=>wpAny (model P w) (A.deeper (envOfC qual scope s.heap.objs.size f cd)) (leaving (envOfC qual scope s.heap.objs.size f cd) e) (fun _ s''=>CX outer H s E e s'') (fun e' s''=>CX outer H s E e' s'') s'
theorem oA {sc:Scope} {n:Nat} {x:Str} (h:sc.names.lookup x=some .cell): ∃ c,(cellsFrom n sc.names []).lookup x=some c:=by
 have q:=PySem.W.cellsFrom_some sc.names n [] (.inl h)
 exact Option.isSome_iff_exists.mp q
theorem eT {CX:CXT} {P:Program} {w:World} {K:PySem.W.Frag} {mg:Str->Option Value} {base:Heap} {N ps:List Str} {qual:Str} {scope:Scope} {f:Addr} {cd:Value} {A:Around} {outer:List Env} {s s1:Shared} {H:Hp} {E:XK} {us:List Value} {vs:List V}
  (S:FnScope N ps scope) (hd:A.handled=none) (e0:Env0 P w K mg base A outer s H) (hl:vs.length=ps.length) (r:aS vs us)
  (x:InCallC s s.heap.objs.size (bindL (envOfC qual scope s.heap.objs.size f cd).kindOf (ps.zip us) fun _=>none) (cellsFrom (s.heap.objs.size+1) scope.names []) (bindC (envOfC qual scope s.heap.objs.size f cd).kindOf (ps.zip us) fun _=>none) s1):
  Inv (kU CX P w K mg base N qual scope f cd A outer s H E) [] (start N vs) H s1:=by
 have hpl:ps.length<=N.length:=by have:=congrArg List.length S.pre;rw [List.length_take] at this;omega
 obtain⟨h1,tk,rfl,hk⟩:=x.done
 have noA: ∀ b:Addr,b∉(kU CX P w K mg base N qual scope f cd A outer s H E).ex:=fun b z=>absurd (show b∈([]:List Addr) from z) (by simp)
 refine⟨⟨e0.mod,S.kind,rfl,rfl,ak _,fun y z c h1 h2=> ?_,fun y hy=> ?_,fun y c _ h=> ?_,fun _=>hd,Around.frames_deeper e0.frames, .inr ⟨rfl,rfl⟩,fun b z=>absurd z (noA b),e0.bs,e0.bsz,fun b _ _=>noA b,fun b z=>absurd z (noA b),e0.funs,e0.frf⟩,
  rfl,e0.bare,Un.kept hk,⟨_,x.toInCall.ns,fun i y v h1 h2 h3=> ?_⟩,fun y c h=>⟨_,x.cell y c h⟩,e0.hok.fresh (ak _),fun y c h=> ?_,fun p hp=>absurd (show p∈([]:List (Addr×Obj)) from hp) (by simp),e0.hok.kept hk, ?_⟩
 ·exact name_of_addr x.apart (PySem.mem_of_lookup h1) (PySem.mem_of_lookup h2)
 ·have hy:scope.names.lookup y=some .cell\/scope.names.lookup y=some .free:=hy
  rcases hy with hy | hy
  ·exact oA hy
  ·exact absurd rfl (S.nofree _ (PySem.mem_of_lookup hy))
 ·exact Nat.le_of_lt (x.above y c (PySem.mem_of_lookup h))
 ·have hi:i<vs.length:=by
   unfold start at h2
   by_cases hi:i<vs.length
   ·exact hi
   ·rw [bo (by simpa using hi)] at h2
    rw [List.getElem?_replicate] at h2
    split at h2<;>cases h2
  have ha:vs[i]? =some v:=by
   unfold start at h2
   rw [bv (by simpa using hi),List.getElem?_map] at h2
   cases e:vs[i]? with
   | none=>rw [e] at h2;cases h2
   | some a=>rw [e] at h2;cases h2;rfl
  obtain⟨u,hu,rv⟩:=r.get ha
  have hp:ps[i]? =some y:=by
   rw [<-S.pre,List.getElem?_take_of_lt (by omega)];exact h1
  have ndP:ps.Nodup:=by rw [<-S.pre];exact S.nd.sublist (List.take_sublist _ _)
  refine⟨u,rv, ?_⟩
  rcases S.par y (List.mem_of_getElem? hp) with k | k
  ·exact .inl ⟨k,kR ndP hp hu k⟩
  ·obtain⟨c,e⟩:=oA (n:=s.heap.objs.size+1) k
   refine .inr ⟨.inl k,c,e, ?_⟩
   have q:=x.cell y c e
   rw [kT ndP hp hu (by show scope.names.lookup y≠_;rw [k];decide)] at q
   exact q
 ·exact e0.hok.fresh (Nat.le_of_lt (x.above y c (PySem.mem_of_lookup h)))
 ·unfold start
  show _=N.length
  rw [bq,aq,List.length_replicate]
  omega
theorem aA0 {CX:CXT} {P:Program} {w:World} {K:PySem.W.Frag} {mg:Str->Option Value} {base:Heap} {k:Nat} {f:Addr} {name qual:Str} {params:Arguments} {body:List Stmt} {scope:Scope} {dV kV doc pm cdv ct oc:Value} {an od:Option Addr}
  {osl:Array (Option Value)} {N ps:List Str} {sp:Sp} (lk:K.lookup f=some ⟨oc,od, .func (PySem.W.fnOf name qual params body scope dV kV doc pm an cdv ct),osl⟩) (hcd:PySem.W.codeIn K cdv qual=true) (S:FnScope N ps scope)
  (len: ∀ vs H Q E,sp vs H Q E->vs.length=ps.length)
  (hbody: ∀ (A:Around) (outer:List Env) (s:Shared) (H:Hp) (vs:List V) (Q:VK) (E:XK),Room k (A.deeper (envOfC qual scope s.heap.objs.size f cdv))->sp vs H Q E->
   ∃ t,PSs (kU CX P w K mg base N qual scope f cdv A outer s H E) body t/\t { nx:=fun _ H'=>Q .non H',rt:=Q } (start N vs) H):
  FnOk P w K mg base CX (k+1) f (PySem.W.fnOf name qual params body scope dV kV doc pm an cdv ct) ps sp:=by
 refine⟨len,fun A outer s H args us vs Q E hr e0 hb r hsp=> ?_⟩
 have hl:=len _ _ _ _ hsp
 have KX:K.In s.heap:=e0.mod.kin.keeps fun b o e=>(e0.bs b o e).1
 have lim:s.heap.NoLimit:=e0.mod.nolimit.keeps fun b o e=>(e0.bs b o e).1
 have hkind: ∀ y∈ps.zip us,scope.names.lookup y.1=some .local\/(scope.names.lookup y.1=some .cell/\((cellsFrom (s.heap.objs.size+1) scope.names []).lookup y.1).isSome=true):=fun⟨n,v⟩ hy=>by
  rcases S.par n (List.of_mem_zip hy).1 with q | q
  ·exact .inl q
  ·exact .inr ⟨q,PySem.W.cellsFrom_some _ _ _ (.inl q)⟩
 refine codeAny_call_function hr.depth (KX _ _ lk) rfl S.co S.gen rfl (PySem.W.codeRec_of KX hcd) (hb _ _ _ _ ?_)
 refine wpAny_newFunctionEnv_cells S.kind hkind fun env he s1 x=> ?_
 subst he
 refine⟨lim.keeps x.toInCall.keep,codeAny_func ?_⟩
 obtain⟨t,ht,hq⟩:=hbody A outer s H vs Q E (hr.deeper _) hsp
 have I:Inv (kU CX P w K mg base N qual scope f cdv A outer s H E) [] (start N vs) H s1:=eT S hr.hd e0 hl r x
 refine wpAny_mono (ht [] s1 (start N vs) H _ I hq) (fun fl s' hs=> ?_) fun e s' hs=>hs
 have fin: ∀ {σ':St} {H':Hp} {v:V} {u:Value},Inv (kU CX P w K mg base N qual scope f cdv A outer s H E) [] σ' H' s'->aP v u->Q v H'->CE outer P w H s Q u s':=
  fun {σ' H' v u} J rv q=>⟨v,H',J.os,J.bare,J.base,J.hok,rv,q⟩
 cases fl with
 | ret u=>
  obtain⟨v,σ',H',J,rv,q⟩:=hs
  exact fin J rv q
 | next=>
  obtain⟨σ',H',J,q⟩:=hs
  exact fin (v:=V.non) (u:=Value.none) J rfl q
 | brk=>
  obtain⟨_,_,_,q⟩:=hs
  exact ba q
 | cont=>
  obtain⟨_,_,_,q⟩:=hs
  exact ba q
section
variable {X:Cx} {x:Str} {p pos:Pos} {e:Expr} {es:List Expr} {t:TA} {id T:String} {r:List V->Hp->VK->Prop}
noncomputable def tCB (r:List V->Hp->VK->Prop) (t:TA):TE:=fun σ H Q=>t σ H fun vs H1=>r vs H1 Q
theorem oB (hc:iQ X (.builtin id) r) (hg:Gl X x) (hm:X.mg x=none) (hv:bootBuiltins x=some (.builtin id)) (ha:PA X (e::es) t) (hn:x≠"__name__":=by decide) (hdb:(x==("__debug__":Str))=false:=by decide)
  (he:starEach (e::es) X.env=(false,eval e X.env)::starEach es X.env:=by rfl) (hpl:(backTo pos (starEach es X.env)).any (·.1)=false:=by rfl):PE X (.Call (.Name x p) (e::es) [] pos) (tCB r t):=by
 intro pins s σ H Q I h
 refine wpAny_Call_Name_kw (gN I hg hm hv ?_ hn hdb)
 exact PyProof.Rows.callWith_builtin1 (thn (ha pos pins s σ H _ I h) fun us s1 ⟨vs,H1,I1,r1,q1⟩=>hc pins s1 σ H1 vs us Q I1 r1 q1) he hpl
end
end L2
namespace HT
open PySem PyProof.Rows
section
open PySem.SeqAt
open PySem.AutoSeq1 (wpAny_loadPart')
open PySem.MeetsSeq PySem.MeetsSeq2 PySem.MeetsSeq3
end
section
variable {prog:Program} {w:World} {A:Around} {E:Value->Shared->Prop} {s:Shared}
theorem cat_tup {t b:Addr} {vs ws:List Value} {Q:Value->Shared->Prop} (ht:IsTup s.heap t vs.toArray) (hb:IsTup s.heap b ws.toArray) (hv:vs≠[])
  (h1:ws=[]->Q (.ref t) s) (h2:ws≠[]->Q (.ref s.heap.objs.size) { s with heap:=s.heap.push { cls:= .type "tuple",data:= .seq (vs++ws).toArray } })
  (hsz:vs.length+ws.length<=sizeLine):wpAny (model prog w) A (binaryOp .Add (.ref t) (.ref b)) Q E s:=by
 obtain⟨⟨cls,dd,data,sl⟩,ho,hc,n,hd⟩:=id ht
 obtain⟨⟨cls2,dd2,data2,sl2⟩,ho2,hc2,n2,hd2⟩:=id hb
 simp only at hc hd hc2 hd2
 subst hc hd hc2 hd2
 have e:vs.toArray++ws.toArray=(vs++ws).toArray:=by simp
 by_cases hw:ws=[]
 ·exact concat_meets ⟨_,ho,rfl⟩ ⟨_,ho2,rfl⟩ noFill_tuple_add seq_tuple_add PySem.F.slot_tuple_add PySem.F.entry_tuple_add (PySem.F.args_tuple_add_2 _ _)
   (tuple_addW1 t b vs.toArray ws.toArray n n2 dd dd2 sl sl2 (by simpa using hv) (by simp [hw])) ⟨ho,ho2,h1 hw⟩
 ·refine concat_meets ⟨_,ho,rfl⟩ ⟨_,ho2,rfl⟩ noFill_tuple_add seq_tuple_add PySem.F.slot_tuple_add PySem.F.entry_tuple_add (PySem.F.args_tuple_add_2 _ _)
   (tuple_addW2 t b vs.toArray ws.toArray n n2 dd dd2 sl sl2 (by simpa using hv) (by simpa using hw) (by rw [ax,ax];exact hsz)) ⟨ho,ho2, ?_⟩
  rw [e]
  exact h2 hw
noncomputable def sIx (n d:Nat):Option Int->Nat
 | none=>d
 | some v=>if v<0 then(v+(n:Int)).toNat else min v.toNat n
theorem aFq (n d:Nat) (hd:d<=n) (o:Option Int):sIx n d o<=n:=by
 cases o with
 | none=>exact hd
 | some v=>
  show(if v<0 then(v+(n:Int)).toNat else min v.toNat n)<=n
  by_cases hv:v<0
  ·rw [if_pos hv];omega
  ·rw [if_neg hv];exact Nat.min_le_right _ _
theorem rM (v:Int) (n d:Nat):(if v<0 then max (v+(n:Int)) 0 else min v (n:Int))=((sIx n d (some v):Nat):Int):=by
 show(if v<0 then max (v+(n:Int)) 0 else min v (n:Int))=(((if v<0 then(v+(n:Int)).toNat else min v.toNat n):Nat):Int)
 by_cases hv:v<0
 ·simp only [if_pos hv];omega
 ·simp only [if_neg hv];omega
theorem pZ (lo hi:Option Int) (n:Nat):Builtin.Slice.sliceAdjust lo hi 1 (n:Int)=(((sIx n 0 lo:Nat):Int),((sIx n n hi:Nat):Int)):=by
 have h1: ¬ ((1:Int)<0):=by omega
 unfold Builtin.Slice.sliceAdjust
 simp only [h1,if_false]
 refine Prod.ext ?_ ?_
 ·cases lo with
  | none=>rfl
  | some v=>exact rM v n 0
 ·cases hi with
  | none=>rfl
  | some v=>exact rM v n n
theorem p5 (i j:Nat):Builtin.Slice.slicePlaces (i:Int) (j:Int) 1=j - i:=by
 unfold Builtin.Slice.slicePlaces
 have h1:(1:Int) > 0:=by omega
 simp only [h1,if_true,Int.ediv_one]
 split<;>omega
theorem iV {v:Value} {o:Option Int} {Q:Option Int->Shared->Prop} (p:IsPart v o) (h:Q o s):wpAny (model prog w) A (Builtin.Slice.slicePartIndex v) Q E s:=by
 cases p with
 | none=>exact slicePart_none h
 | int i t=>exact slicePart_int h
theorem sliceApplied_gen {sl:Addr} {vl vu:Value} {lo hi:Option Int} {n:Nat} {Q:Int×Int×Nat->Shared->Prop} (hs:s.heap.IsSliceOf sl vl vu .none) (pl:IsPart vl lo) (pu:IsPart vu hi)
  (h:Q (((sIx n 0 lo:Nat):Int),1,sIx n n hi - sIx n 0 lo) s):wpAny (model prog w) A (Builtin.Slice.sliceApplied (.ref sl) (pure (n:Int))) Q E s:=by
 obtain⟨os,hos,hcs,hds⟩:=id hs
 unfold Builtin.Slice.sliceApplied Builtin.Slice.sliceFields
 refine ae (ae (wpAny_field hos hds (x:=vl) rfl (ae (wpAny_field hos hds (x:=vu) rfl (ae (wpAny_field hos hds (x:= .none) rfl (af ?_)))))))
 refine ae (slicePart_none ?_)
 show wpAny _ _ (if((1:Int)==0)=true then _ else _) _ _ s
 rw [if_neg (by decide)]
 refine ae (iV pl (ae (iV pu (ae (af ?_)))))
 show wpAny _ _ (match Builtin.Slice.sliceAdjust lo hi 1 (n:Int) with | (lo,hi)=>pure (lo,(1:Int),Builtin.Slice.slicePlaces lo hi 1)) _ _ s
 rw [pZ lo hi n]
 show wpAny _ _ (pure (((sIx n 0 lo:Nat):Int),(1:Int),Builtin.Slice.slicePlaces ((sIx n 0 lo:Nat):Int) ((sIx n n hi:Nat):Int) 1)) _ _ s
 rw [p5]
 exact af h
theorem v8 (xs:Array Value) (i k:Nat):((List.range k).filterMap fun(m:Nat)=>xs[((i:Int)+(m:Int) * 1).toNat]?).toArray=((xs.toList.drop i).take k).toArray:=by
 have e:(fun(m:Nat)=>xs[((i:Int)+(m:Int) * 1).toNat]?)=fun m=>xs[i+m]? :=by
  funext m
  have:((i:Int)+(m:Int) * 1).toNat=i+m:=by omega
  rw [this]
 rw [e]
 have:=pick_run xs i k
 rw [List.filterMap_map] at this
 have e2:((fun x=>xs[x]?) ∘ fun x=>i+x)=fun m=>xs[i+m]? :=rfl
 rw [e2] at this
 rw [this]
theorem getItem_tuple_cut {t sl:Addr} {items:Array Value} {vl vu:Value} {lo hi:Option Int} {Q:Value->Shared->Prop} (ht:IsTup s.heap t items) (hs:s.heap.IsSliceOf sl vl vu .none) (pl:IsPart vl lo) (pu:IsPart vu hi)
  (hw: ¬ (sIx items.size 0 lo=0/\sIx items.size items.size hi=items.size))
  (h:Q (.ref s.heap.objs.size) { s with heap:=s.heap.push { cls:= .type "tuple",data:= .seq ((items.toList.drop (sIx items.size 0 lo)).take (sIx items.size items.size hi - sIx items.size 0 lo)).toArray } })
  (hsz:items.size<=sizeLine):wpAny (model prog w) A (getItem (.ref t) (.ref sl)) Q E s:=by
 have htake:sizeOk (.seq ((items.toList.drop (sIx items.size 0 lo)).take (sIx items.size items.size hi - sIx items.size 0 lo)).toArray):=by
  show((items.toList.drop (sIx items.size 0 lo)).take (sIx items.size items.size hi - sIx items.size 0 lo)).toArray.size<=sizeLine
  rw [ax,List.length_take,List.length_drop,Array.length_toList]
  omega
 have hj:sIx items.size items.size hi<=items.size:=aFq _ _ (ak _) hi
 obtain⟨os,hos,hcs,hds⟩:=id hs
 have hTs:s.TypeIs (.ref sl) "slice":=⟨os,hos,hcs⟩
 unfold getItem
 try with_reducible refine wpAny_holding ?_
 first | refine ae (af ?_) | skip
 refine ae (wpAny_sequenceKey ht.typeIs (by decide) ?_)
 refine ae (wpAny_callSpecial?_slot (name:=Str.ofString "__getitem__") ht.typeIs PyProof.Rows.slot_tuple_getitem
  (wpAny_call_entry PyProof.Rows.slot_tuple_getitem ht.typeIs entry_tuple_getitem ?_ (args_tuple_getitem _ _)))
 show wpAny _ _ (Builtin.Tuple.tupleItemsOf (.ref t) >>= _) _ _ s
 refine ae (tupleItemsOf_ ht ?_)
 refine ae (wpAny_typeOf hTs ?_)
 rw [if_pos (by decide)]
 refine ae (sliceApplied_gen hs pl pu ?_)
 have hno: ¬ ((((sIx items.size 0 lo:Nat):Int)==0&&(1:Int)==1&&(sIx items.size items.size hi - sIx items.size 0 lo)==items.size)=true):=by
  intro q
  rw [aw,aw] at q
  have q1:((sIx items.size 0 lo:Nat):Int)=0:=eq_of_beq q.1.1
  have q2:sIx items.size items.size hi - sIx items.size 0 lo=items.size:=eq_of_beq q.2
  exact hw ⟨by omega,by omega⟩
 show wpAny _ _ (if(((sIx items.size 0 lo:Nat):Int)==0&&(1:Int)==1&&(sIx items.size items.size hi - sIx items.size 0 lo)==items.size)=true then _ else _) _ _ s
 rw [if_neg hno,v8]
 first
  | exact ae (m:=Builtin.Tuple.tupleExact _) (wpAny_newObj_type (af ⟨_,rfl,af h⟩) htake)
  | exact ae (m:=Builtin.Tuple.tupleExact _) (wpAny_newObj_type (ae (af (af ⟨_,rfl,af h⟩))) htake)
  | exact ae (ae (m:=Builtin.Tuple.tupleExact _) (wpAny_newObj_type (af (af ⟨_,rfl,af h⟩)) htake))
  | exact ae (ae (m:=Builtin.Tuple.tupleExact _) (wpAny_newObj_type (af ⟨_,rfl,af h⟩) htake))
end
end HT
namespace L2
open PySem PySem.Spec PyProof.Rows
abbrev TO:=St->Hp->(Option Int->Hp->Prop)->Prop
section
variable {X:Cx} {e:Expr} {te:TE} {lo hi:Option Expr} {tl th:TO} {pos p2:Pos}
def SlR (X:Cx) (r:V->Option Int->Option Int->Hp->VK->Prop):Prop:=
 ∀ (pins:List (Addr×Obj)) (s:Shared) (σ:St) (H:Hp) (x:V) (v vl vu:Value) (lo hi:Option Int) (sl:Addr) (Q:VK),Inv X pins σ H s->aP x v->s.heap.IsSliceOf sl vl vu .none->IsPart vl lo->IsPart vu hi->r x lo hi H Q->
  ∃ T id,typeLookup (.type T) "__getitem__"=pure (some (.builtin id))/\s.TypeIs v T/\wpAny (model X.prog X.w) X.A (getItem v (.ref sl)) (EP X pins σ Q) X.xe s
noncomputable def oC (xs:List V) (lo hi:Option Int):List V:=(xs.drop (HT.sIx xs.length 0 lo)).take (HT.sIx xs.length xs.length hi - HT.sIx xs.length 0 lo)
theorem gU (xs:List V) (lo hi:Option Int):(oC xs lo hi).length<=xs.length:=by
 unfold oC
 rw [List.length_take,List.length_drop]
 omega
noncomputable def aMq (K:PySem.W.Frag):V->Option Int->Option Int->Hp->VK->Prop:=fun x lo hi H Q=> ∃ a xs,x= .ref a/\SqT K H a xs/\
 ¬ (HT.sIx xs.length 0 lo=0/\HT.sIx xs.length xs.length hi=xs.length)/\ ∀ p,H p=none->Q (.ref p) (upd H p (.tup (oC xs lo hi)))
theorem aFr:SlR X (aMq X.K):=by
 intro pins s σ H x v vl vu lo hi sl Q I rx hs pl pu h
 obtain⟨a,xs,rfl,hx,hw,q⟩:=h
 cases rx
 obtain⟨its,r,ht,hz⟩:=I.tuple hx
 have hlen:its.toArray.size=xs.length:=by rw [ax];exact r.length.symm
 refine⟨"tuple",_,PyProof.Rows.slot_tuple_getitem.lookup,ht.typeIs, ?_⟩
 refine HT.getItem_tuple_cut ht hs pl pu (by rw [hlen];exact hw) ?_ (by rw [hlen];exact hz)
 rw [hlen]
 refine⟨.ref s.heap.objs.size,_,I.laid (t':=s.toks) (o:= .tup (oC xs lo hi)) (fun b ob q=>ag _ q) (ak _) ?_,rfl,q _ (I.hok.fresh (ak _))⟩
 exact⟨Nat.le_trans (gU xs lo hi) hz,_,(r.drop (HT.sIx xs.length 0 lo)).take (HT.sIx xs.length xs.length hi - HT.sIx xs.length 0 lo),IsTup.new _ _,⟨_,ah _ rfl,rfl⟩⟩
noncomputable def aJt (K:PySem.W.Frag):R2:=fun x y H Q=> ∃ a b xs ys,x= .ref a/\y= .ref b/\SqT K H a xs/\SqT K H b ys/\xs≠[]/\xs.length+ys.length<=sizeLine/\
 (ys=[]->Q (.ref a) H)/\(ys≠[]-> ∀ p,H p=none->Q (.ref p) (upd H p (.tup (xs++ys))))
theorem aS.nil_iff {xs:List V} {us:List Value} (r:aS xs us):us=[]↔xs=[]:=by
 cases r with
 | nil=>simp
 | cons _ _=>simp
theorem aA1:OpR X (binaryOp .Add) (aJt X.K):=by
 intro pins s σ H x y v u Q I rx ry h
 obtain⟨a,b,xs,ys,rfl,rfl,ha,hb,hx,hz,q1,q2⟩:=h
 cases rx
 cases ry
 obtain⟨its,r1,p1,_⟩:=I.tuple ha
 obtain⟨its2,r2,p2,_⟩:=I.tuple hb
 refine HT.cat_tup p1 p2 (fun z=>hx (r1.nil_iff.mp z)) (fun z=>⟨.ref a,H,I,rfl,q1 (r2.nil_iff.mp z)⟩) (fun z=> ?_) (by rw [<-r1.length, <-r2.length];exact hz)
 refine⟨.ref s.heap.objs.size,_,I.laid (t':=s.toks) (o:= .tup (xs++ys)) (fun b ob q=>ag _ q) (ak _) ?_,rfl,q2 (fun w=>z (r2.nil_iff.mpr w)) _ (I.hok.fresh (ak _))⟩
 exact⟨by rw [bq];exact hz,_,r1.append r2,IsTup.new _ _,⟨_,ah _ rfl,rfl⟩⟩
end
noncomputable def ixN (n:Nat) (i:Int):Option Nat:=if 0<=i then(if i<n then some i.toNat else none) else if -(n:Int)<=i then some (i+n).toNat else none
noncomputable def atI {α:Type} (xs:List α) (i:Int):Option α:=(ixN xs.length i).bind fun j=>xs[j]?
theorem rN {n:Nat} {i:Int} {j:Nat} (h:ixN n i=some j):seqIndex? i n=some j/\j<n/\ -(n:Int)<=i/\i<n:=by
 unfold ixN at h
 by_cases h0:0<=i
 ·rw [if_pos h0] at h
  by_cases h1:i<n
  ·rw [if_pos h1] at h
   have e:i.toNat=j:=Option.some.inj h
   exact⟨by rw [seqIndex_of h0 h1,e],by omega,by omega,h1⟩
  ·rw [if_neg h1] at h;cases h
 ·rw [if_neg h0] at h
  by_cases h1: -(n:Int)<=i
  ·rw [if_pos h1] at h
   have e:(i+n).toNat=j:=Option.some.inj h
   exact⟨by rw [seqIndex_neg (by omega) h1,e],by omega,h1,by omega⟩
  ·rw [if_neg h1] at h;cases h
theorem rO {α:Type} {xs:List α} {i:Int} {v:α} (h:atI xs i=some v): ∃ j,seqIndex? i xs.length=some j/\xs[j]? =some v/\j<xs.length/\ -(xs.length:Int)<=i/\i<xs.length:=by
 unfold atI at h
 cases e:ixN xs.length i with
 | none=>rw [e] at h;cases h
 | some j=>
  rw [e] at h
  obtain⟨h1,h2,h3,h4⟩:=rN e
  exact⟨j,h1,h,h2,h3,h4⟩
def rP (b:Expr):Prop:= ∀ o i,subscripted b false o i=operate [o,i] (getItem o i)
def IxR (X:Cx) (r:R2):Prop:=
 ∀ (value slice:Expr) (pins:List (Addr×Obj)) (s:Shared) (σ:St) (H:Hp) (x y:V) (v u:Value) (Q:VK),Inv X pins σ H s->aP x v->aP y u->r x y H Q->
  subscripted slice false v u=operate [v,u] (getItem v u)->wpAny (model X.prog X.w) X.A (subscriptTail value slice v u) (EP X pins σ Q) X.xe s
def MtR (X:Cx) (id:String) (r:V->List V->Hp->VK->Prop):Prop:=
 ∀ (pins:List (Addr×Obj)) (s:Shared) (σ:St) (H:Hp) (x:V) (xs:List V) (v:Value) (us:List Value) (Q:VK),Inv X pins σ H s->aP x v->aS xs us->r x xs H Q->
  wpAny (model X.prog X.w) X.A (call (.builtin id) (v::us)) (EP X pins σ Q) X.xe s
section
variable {X:Cx} {a b:Expr} {ta tb:TE} {pos:Pos}
noncomputable def aLn (K:PySem.W.Frag):R2:=fun x y H Q=> ∃ p xs i v,x= .ref p/\y= .int i/\SqL K H p xs/\atI xs i=some v/\Q v H
noncomputable def aLo (K:PySem.W.Frag):R2:=fun x y H Q=> ∃ p xs i v,x= .ref p/\y= .int i/\SqT K H p xs/\atI xs i=some v/\Q v H
noncomputable def aMr:R2:=fun x y H Q=> ∃ z i c,x= .str z/\y= .int i/\z.length<=sizeLine/\atI z.cps.toList i=some c/\Q (.str ⟨#[c]⟩) H
theorem aA2:IxR X (aLn X.K):=by
 intro value slice pins s σ H x y v u Q I rx ry h hs
 obtain⟨p,xs,i,z,rfl,rfl,hq,he,q⟩:=h
 cases rx
 obtain⟨t,rfl⟩:=ry
 obtain⟨its,r,pl,hz⟩:=I.list hq
 obtain⟨j,h1,h2,h3,h4,h5⟩:=rO he
 obtain⟨w,ew,rw'⟩:=r.get h2
 have hl:=r.length
 have hn:=kM
 have fin:EP X pins σ Q w s:=⟨z,H,I,rw',q⟩
 by_cases h0:0<=i
 ·have hj:i.toNat=j:=by
   rw [seqIndex_of h0 h5] at h1
   exact Option.some.inj h1
  exact item_listR pl.isList h0 (by omega) (by rw [hj];simpa using ew) fin hs
 ·have hj:(i+(its.toArray.size:Int)).toNat=j:=by
   rw [seqIndex_neg (by omega) h4] at h1
   rw [ax, <-hl]
   exact Option.some.inj h1
  exact subscriptTail_builtinR (x:=w) pl.isList.typeIs slot_list_getitem.lookup
   (wpAny_getItem_list_neg (Q:=fun r s'=>r=w/\EP X pins σ Q r s') pl.isList (by omega) (by rw [ax]<;>omega) (by omega) (by rw [hj];simpa using ew) ⟨rfl,fin⟩) hs
theorem aFs:IxR X (aLo X.K):=by
 intro value slice pins s σ H x y v u Q I rx ry h hs
 obtain⟨p,xs,i,z,rfl,rfl,hq,he,q⟩:=h
 cases rx
 obtain⟨t,rfl⟩:=ry
 obtain⟨its,r,pl,hz⟩:=I.tuple hq
 obtain⟨j,h1,h2,h3,h4,h5⟩:=rO he
 obtain⟨w,ew,rw'⟩:=r.get h2
 have hl:=r.length
 have hn:=kM
 have fin:EP X pins σ Q w s:=⟨z,H,I,rw',q⟩
 exact subscriptTail_builtinR (x:=w) pl.typeIs slot_tuple_getitem.lookup
  (getItem_tuple (j:=j) (Q:=fun r s'=>r=w/\EP X pins σ Q r s') pl (by omega) (by omega) (by rw [ax, <-hl];exact h1) (by simpa using ew) ⟨rfl,fin⟩) hs
noncomputable def rIx (K:PySem.W.Frag):R2:=fun x y H Q=>aLn K x y H Q\/aLo K x y H Q\/aMr x y H Q
theorem p6 (its:List Value) (n j:Nat) (u:Value):Obj.mapSeq (·.setIfInBounds j u) { cls:= .type "list",data:= .seq its.toArray n }={ cls:= .type "list",data:= .seq (its.set j u).toArray n }:=by
 simp [Obj.mapSeq]
theorem Inv.lst {pins:List (Addr×Obj)} {σ:St} {H:Hp} {s:Shared} {p:Addr} {xs:List V} (I:Inv X pins σ H s) (h:H p=some (.lst xs)):
  ∃ (its:List Value) (n:Nat),aS xs its/\s.heap.get? p=some { cls:= .type "list",data:= .seq its.toArray n }/\xs.length<=sizeLine:=by
 obtain⟨z,its,n,r,e⟩:=I.hok p _ h
 exact⟨its,n,r,e,z⟩
theorem Inv.lstUpd {pins:List (Addr×Obj)} {σ:St} {H:Hp} {s:Shared} {p:Addr} {xs ys:List V} {its its':List Value} {n n':Nat} {f:Obj->Obj} (I:Inv X pins σ H s) (h:H p=some (.lst xs))
  (ho:s.heap.get? p=some { cls:= .type "list",data:= .seq its.toArray n }) (hf:f { cls:= .type "list",data:= .seq its.toArray n }={ cls:= .type "list",data:= .seq its'.toArray n' }) (r:aS ys its') (hz:ys.length<=sizeLine) (t:Nat):
  Inv X pins σ (upd H p (.lst ys)) { s with heap:=s.heap.update p f,toks:=t }:=by
 have e:(s.heap.update p f).get? p=some { cls:= .type "list",data:= .seq its'.toArray n' }:=by
  rw [Heap.get?_update_self f ho (by rw [hf]<;>rfl),hf]
 refine I.write (x:=p) (e:=p) (by rw [h];trivial) (.inl rfl) (fun b u hb q=>(Heap.get?_update_other _ _ (Ne.symm hb)).trans q) ⟨_,e⟩ ?_
 exact⟨hz,its',n',r,e⟩
noncomputable def aJu:V->V->V->Hp->(Hp->Prop)->Prop:=fun o i v H Q=> ∃ p xs k j,o= .ref p/\i= .int k/\H p=some (.lst xs)/\ixN xs.length k=some j/\Q (upd H p (.lst (xs.set j v)))
theorem v9:aLl X aJu:=by
 intro pins s σ H o i v ov iv u Q I ro ri rv h
 obtain⟨p,xs,k,j,rfl,rfl,hp,hj,q⟩:=h
 cases ro
 obtain⟨t,rfl⟩:=ri
 obtain⟨its,n,r,ho,hz⟩:=I.lst hp
 obtain⟨h1,h2,h3,h4⟩:=rN hj
 have hl:=r.length
 have hn:=kM
 have I':Inv X pins σ (upd H p (.lst (xs.set j v))) { s with heap:=s.heap.update p (Obj.mapSeq (·.setIfInBounds j u)) }:=
  I.lstUpd hp ho (p6 its n j u) (r.set rv j) (by rw [List.length_set];exact hz) s.toks
 by_cases h0:0<=k
 ·have hk:k.toNat=j:=by
   rw [seqIndex_of h0 h4] at h1
   exact Option.some.inj h1
  exact PySem.W.ki_setAt ho h0 (by omega) (by rw [ax, <-hl];exact h4) (by rw [hk];exact⟨_,I',q⟩)
 ·have hk:(k+(its.toArray.size:Int)).toNat=j:=by
   rw [seqIndex_neg (by omega) h3] at h1
   rw [ax, <-hl]
   exact Option.some.inj h1
  exact PySem.W.ki_setBack ho (by omega) (by rw [ax, <-hl];exact h3) (by omega) (by rw [hk];exact⟨_,I',q⟩)
theorem kW (lo hi:Option Int) (n:Nat):(sliceBounds lo hi none n).1=((HT.sIx n 0 lo:Nat):Int)/\(sliceBounds lo hi none n).2.1=((HT.sIx n n hi:Nat):Int)/\(sliceBounds lo hi none n).2.2=1:=by
 refine⟨?_, ?_,rfl⟩
 ·cases lo with
  | none=>simp [sliceBounds,HT.sIx]
  | some i=>
   simp only [sliceBounds,HT.sIx,Option.getD_none,show(1:Int) > 0 by decide,if_true]
   by_cases h:i<0
   ·simp only [h,if_true]<;>omega
   ·simp only [h,if_false]<;>omega
 ·cases hi with
  | none=>simp [sliceBounds,HT.sIx]
  | some i=>
   simp only [sliceBounds,HT.sIx,Option.getD_none,show(1:Int) > 0 by decide,if_true]
   by_cases h:i<0
   ·simp only [h,if_true]<;>omega
   ·simp only [h,if_false]<;>omega
theorem jH (its:List Value) (lo hi:Option Int):slicePick its.toArray lo hi none=((its.drop (HT.sIx its.length 0 lo)).take (HT.sIx its.length its.length hi - HT.sIx its.length 0 lo)).toArray:=by
 obtain⟨h1,h2,h3⟩:=kW lo hi its.toArray.size
 unfold slicePick
 rw [h1,h2,h3]
 simp only [sliceRange_one,pick_run,ax]<;>rfl
noncomputable def aMs (K:PySem.W.Frag):V->Option Int->Option Int->Hp->VK->Prop:=fun x lo hi H Q=> ∃ a xs,x= .ref a/\SqL K H a xs/\ ∀ p,H p=none->Q (.ref p) (upd H p (.lst (oC xs lo hi)))
theorem aA3:SlR X (aMs X.K):=by
 intro pins s σ H x v vl vu lo hi sl Q I rx hs pl pu h
 obtain⟨a,xs,rfl,hx,q⟩:=h
 cases rx
 obtain⟨its,r,ht,hz⟩:=I.list hx
 have hlen:=r.length
 refine⟨"list",_,slot_list_getitem.lookup,ht.isList.typeIs, ?_⟩
 refine wpAny_getItem_list_slice ht.isList hs pl pu .none (by simp) ?_ (by rw [ax]<;>omega)
 rw [jH, <-hlen]
 refine⟨.ref s.heap.objs.size,_,I.laid (t':=s.toks) (o:= .lst (oC xs lo hi)) (fun b ob q=>ag _ q) (ak _) ?_,rfl,q _ (I.hok.fresh (ak _))⟩
 exact⟨Nat.le_trans (gU xs lo hi) hz,_,0,(r.drop (HT.sIx xs.length 0 lo)).take (HT.sIx xs.length xs.length hi - HT.sIx xs.length 0 lo),ah _ rfl⟩
theorem kX:iQ X (.builtin "len") (fun xs H Q=> ∃ p ys,xs=[.ref p]/\(SqL X.K H p ys\/SqT X.K H p ys)/\Q (.int ys.length) H):=by
 intro pins s σ H xs us Q I r h
 obtain⟨p,ys,rfl,hq,q⟩:=h
 obtain⟨u,rfl,rx⟩:=kN r
 cases rx
 have hn:=kM
 rcases hq with hq | hq
 ·obtain⟨its,r',pl,hz⟩:=I.list hq
  have hlen:=r'.length
  exact Calls.call_len_list pl.isList (by simp only [ax]<;>omega) ⟨.int ys.length,H,I.tok _,⟨s.toks+1,by rw [ax,hlen]⟩,q⟩
 ·obtain⟨its,r',pl,hz⟩:=I.tuple hq
  have hlen:=r'.length
  exact len_tuple pl (by simp only [ax]<;>omega) ⟨.int ys.length,H,I.tok _,⟨s.toks+1,by rw [ax,hlen]⟩,q⟩
theorem kY:iQ X (.builtin "len") (fun xs H Q=> ∃ z,xs=[.str z]/\z.length<=sizeLine/\Q (.int z.length) H):=by
 intro pins s σ H xs us Q I r h
 obtain⟨z,rfl,hz,q⟩:=h
 obtain⟨u,rfl,t,rfl⟩:=kN r
 have hn:=kM
 exact len_str (by omega) ⟨.int z.length,H,I.tok _,⟨_,rfl⟩,q⟩
theorem kZ:iQ X (.type "list") (fun xs H Q=> ∃ p ys,xs=[.ref p]/\(SqL X.K H p ys\/SqT X.K H p ys)/\ ∀ l,H l=none->Q (.ref l) (upd H l (.lst ys))):=by
 intro pins s σ H xs us Q I r h
 obtain⟨p,ys,rfl,hq,q⟩:=h
 obtain⟨u,rfl,rx⟩:=kN r
 cases rx
 have fin: ∀ (its:List Value),aS ys its->ys.length<=sizeLine-> ∀ (h':Heap) (c':Nat),(∀ b o',s.heap.get? b=some o'->h'.get? b=some o')->
   h'.get? s.heap.objs.size=some { cls:= .type "list",dict:=none,data:= .seq its.toArray c',slots:= #[] }->EP X pins σ Q (.ref s.heap.objs.size) { s with heap:=h' }:=fun its r' hz h' c' kp e=>
  ⟨.ref s.heap.objs.size,_,I.laid (t':=s.toks) kp (ak _) (show ObjOk X.prog X.w _ h' _ (.lst ys) from⟨hz,its,c',r',e⟩),rfl,q _ (I.hok.fresh (ak _))⟩
 rcases hq with hq | hq
 ·obtain⟨its,r',pl,hz⟩:=I.list hq
  have hlen:=r'.length
  obtain⟨o,ho,hc,n,hd⟩:=pl.isList
  exact call_list_seq p (.inl rfl) ho hc hd (fun h' c' kp e=>fin its r' hz h' c' kp e) (by simp only [ax]<;>omega)
 ·obtain⟨its,r',pl,hz⟩:=I.tuple hq
  have hlen:=r'.length
  obtain⟨o,ho,hc,n,hd⟩:=pl
  exact call_list_seq p (.inr rfl) ho hc hd (fun h' c' kp e=>fin its r' hz h' c' kp e) (by simp only [ax]<;>omega)
theorem eU:iQ X (.type "tuple") (fun xs H Q=> ∃ p ys,xs=[.ref p]/\((SqL X.K H p ys/\ ∀ l,H l=none->Q (.ref l) (upd H l (.tup ys)))\/(SqT X.K H p ys/\Q (.ref p) H))):=by
 intro pins s σ H xs us Q I r h
 obtain⟨p,ys,rfl,h⟩:=h
 obtain⟨u,rfl,rx⟩:=kN r
 cases rx
 rcases h with ⟨hq,q⟩ | ⟨hq,q⟩
 ·obtain⟨its,r',pl,hz⟩:=I.list hq
  have hlen:=r'.length
  refine call_tuple_list pl.isList (fun h' kp=> ?_) (by simp only [ax]<;>omega)
  have I1:Inv X pins σ H { s with heap:=h' }:=I.kept (t':=s.toks) kp
  have I2:Inv X pins σ (upd H h'.objs.size (.tup ys)) { s with heap:=h'.push { cls:= .type "tuple",data:= .seq its.toArray } }:=
   I1.laid (t':=s.toks) (fun b o e=>ag _ e) (ak _) (show ObjOk X.prog X.w _ _ _ (.tup ys) from⟨hz,its,r',IsTup.new _ _,⟨_,ah _ rfl,rfl⟩⟩)
  exact⟨.ref h'.objs.size,_,I2,rfl,q _ (I1.hok.fresh (ak _))⟩
 ·obtain⟨its,r',pl,hz⟩:=I.tuple hq
  exact call_tuple_same pl ⟨.ref p,H,I,rfl,q⟩
def tyV (K:PySem.W.Frag) (T:String) (x:V) (H:Hp):Prop:=match x with
 | .str _=>T="str"
 | .int _=>T="int"
 | .ref p=>(T="list"/\ ∃ xs,SqL K H p xs)\/(T="tuple"/\ ∃ o,K.lookup p=some o/\o.cls= .type "tuple"/\o.dict=none)\/
   (T="dict"/\((∃ kvs,H p=some (.dK kvs))\/ ∃ kvs,H p=some (.dT kvs)))\/(T="set"/\ ∃ S n,H p=some (.set S n))
 | _=>False
theorem rQ {pins:List (Addr×Obj)} {σ:St} {H:Hp} {s:Shared} {T:String} {x:V} {v:Value} (I:Inv X pins σ H s) (r:aP x v) (ty:tyV X.K T x H):
  s.TypeIs v T/\ ∀ a,v= .ref a-> ∃ ob,s.heap.get? a=some ob/\ob.dict=none:=by
 cases x with
 | str z=>
  obtain⟨t,rfl⟩:=r
  cases (show T="str" from ty)
  exact⟨typeIs_str s z t,fun _ e=>nomatch e⟩
 | int i=>
  obtain⟨t,rfl⟩:=r
  cases (show T="int" from ty)
  exact⟨typeIs_int s i t,fun _ e=>nomatch e⟩
 | ref p=>
  cases r
  rcases ty with ⟨rfl,xs,hq⟩ | ⟨rfl,o,hk,hc,hd⟩ | ⟨rfl,hk⟩ | ⟨rfl,S,n,hk⟩
  ·obtain⟨its,_,pl,_⟩:=I.list hq
   refine⟨pl.isList.typeIs,fun a e=> ?_⟩
   cases e
   obtain⟨o,n,e,c,hd,_⟩:=pl
   exact⟨o,e,hd⟩
  ·refine⟨⟨o,I.kIn p o hk,hc⟩,fun a e=> ?_⟩
   cases e
   exact⟨o,I.kIn _ o hk,hd⟩
  ·have z: ∃ o,s.heap.get? p=some o/\o.ExactDict:=by
    rcases hk with ⟨kvs,hk⟩ | ⟨kvs,hk⟩
    ·obtain⟨_,_,_,_,o,_,_,e,ex,_⟩:=I.hok p _ hk
     exact⟨o,e,ex⟩
    ·obtain⟨_,_,_,_,o,_,_,e,ex,_⟩:=I.hok p _ hk
     exact⟨o,e,ex⟩
   obtain⟨o,e,ex⟩:=z
   refine⟨⟨o,e,ex.1⟩,fun a e2=> ?_⟩
   cases e2
   exact⟨o,e,ex.2.1⟩
  ·obtain⟨o,_,_,_,e,ex,_⟩:=I.hok p _ hk
   refine⟨⟨o,e,ex.1⟩,fun a e2=> ?_⟩
   cases e2
   exact⟨o,e,ex.2.1⟩
 | _=>exact ba ty
noncomputable def aLp (K:PySem.W.Frag) (T:String) (r:V->List V->Hp->VK->Prop) (to:TE):TE:=fun σ H Q=>to σ H fun x H1=>tyV K T x H1/\r x [] H1 Q
noncomputable def tBM (K:PySem.W.Frag) (T:String) (r:V->List V->Hp->VK->Prop) (to:TE) (t:TA):TE:=fun σ H Q=>to σ H fun x H1=>tyV K T x H1/\t σ H1 fun xs H2=>r x xs H2 Q
variable {o e:Expr} {es:List Expr} {to:TE} {t:TA} {name:Str} {apos cpos:Pos} {T id:String} {r:V->List V->Hp->VK->Prop}
theorem aFt (pa:PlainAttrs T) (slot:Slot T name id) (hty:typeOf (.builtin id)=pure (.type "method_descriptor")) (hm:MtR X id r) (ho:PE X o to)
  (hbase:attributeBase o name X.env (eval o X.env)=eval o X.env:=by rfl) (hline:(apos.endLine==cpos.line)=true:=by rfl):PE X (.Call (.Attribute o name apos) [] [] cpos) (aLp X.K T r to):=by
 intro pins s σ H Q I h
 refine wpAny_Call_method0_late hbase hline (thn (ho pins s σ H _ I h) fun v s1 hz_=> ?_)
 obtain⟨x,H1,I1,r1,ty,q1⟩:=hz_
 obtain⟨h1,h2⟩:=rQ I1 r1 ty
 exact⟨T,id,pa,slot,hty,h1,h2,Calls.callWith_builtin rfl (PySem.evalArgs_none (hm pins s1 σ H1 x [] v [] Q I1 r1 .nil q1))⟩
theorem wA (pa:PlainAttrs T) (slot:Slot T name id) (hty:typeOf (.builtin id)=pure (.type "method_descriptor")) (hm:MtR X id r) (ho:PE X o to) (ha:PA X (e::es) t)
  (hbase:attributeBase o name X.env (eval o X.env)=eval o X.env:=by rfl)
  (hfew:((backTo cpos (starEach (e::es) X.env)).all (fun x=> !x.1)&&(backToKw cpos (keywordEach [] X.env)).all (fun x=>x.1.isSome)
   &&decide ((e::es).length+([]:List Keyword).length+(if([]:List Keyword).isEmpty then 0 else 1)<30))=true:=by rfl)
  (hline:(apos.endLine==cpos.line)=true:=by rfl) (hs:starEach (e::es) X.env=(false,eval e X.env)::starEach es X.env:=by rfl) (hplain:(backTo cpos (starEach es X.env)).any (·.1)=false:=by rfl):
  PE X (.Call (.Attribute o name apos) (e::es) [] cpos) (tBM X.K T r to t):=by
 intro pins s σ H Q I h
 refine wpAny_Call_method_late hbase hfew hline rfl (thn (ho pins s σ H _ I h) fun v s1 hz_=> ?_)
 obtain⟨x,H1,I1,r1,ty,q1⟩:=hz_
 obtain⟨h1,h2⟩:=rQ I1 r1 ty
 refine⟨T,id,pa,slot,hty,h1,h2, ?_⟩
 have hA:=ha cpos pins s1 σ H1 _ I1 q1
 rw [hs] at hA ⊢
 refine Calls.callWith_builtin (by show(false||(backTo cpos (starEach es X.env)).any (·.1))=false;rw [hplain]<;>rfl) (Calls.evalArgs_plain ?_)
 exact thn hA fun us s2 ⟨vs,H2,I2,r2,q2⟩=>hm pins s2 σ H2 x vs v us Q I2 r1 r2 q2
end
def MtM (X:Cx) (id:String) (r:V->List V->Hp->VK->Prop):Prop:=
 ∀ (pins:List (Addr×Obj)) (s:Shared) (σ:St) (H:Hp) (x:V) (xs:List V) (v:Value) (us:List Value) (Q:VK),Inv X pins σ H s->aP x v->aS xs us->r x xs H Q->
  wpAny (model X.prog X.w) X.A (call (.builtin id) (v::us)) (EP X pins σ Q) X.xe s
theorem aS.one: ∀ {x:V} {us:List Value},aS [x] us-> ∃ u,us=[u]/\aP x u
 | _,_, .cons r .nil=>⟨_,rfl,r⟩
theorem aS.two: ∀ {x y:V} {us:List Value},aS [x,y] us-> ∃ u v,us=[u,v]/\aP x u/\aP y v
 | _,_,_, .cons r (.cons q .nil)=>⟨_,_,rfl,r,q⟩
theorem aS.zero: ∀ {us:List Value},aS [] us->us=[]
 | _, .nil=>rfl
theorem aS.dropLast {xs:List V} {us:List Value} (h:aS xs us):aS xs.dropLast us.dropLast:=by
 induction h with
 | nil=>exact .nil
 | cons r t ih=>
  cases t with
  | nil=>exact .nil
  | cons q t'=>exact .cons r ih
theorem aS.rep {xs:List V} {us:List Value} (h:aS xs us): ∀ k:Nat,aS (ao k xs).flatten (ao k us).flatten
 | 0=> .nil
 | k+1=>by
  rw [List.replicate_succ,List.replicate_succ,List.flatten_cons,List.flatten_cons]
  exact aS.append h (aS.rep h k)
theorem p7 {α:Type} (l:List α):l.eraseIdx (l.length - 1)=l.dropLast:=by
 induction l with
 | nil=>rfl
 | cons a r ih=>
  cases r with
  | nil=>rfl
  | cons b r=>
   have e:(a::b::r).length - 1=((b::r).length - 1)+1:=by
    have h1:(a::b::r).length=r.length+2:=rfl
    have h2:(b::r).length=r.length+1:=rfl
    omega
   rw [e,List.eraseIdx_cons_succ,ih]
   all_goals rfl
theorem k8 (its:List Value): ∀ (k:Nat) (acc:List Value),
  List.foldl (fun x1 x2=>x1++x2) acc.toArray (ao k its.toArray)=(acc++(ao k its).flatten).toArray
 | 0,acc=>by simp
 | k+1,acc=>by
  have e:acc.toArray++its.toArray=(acc++its).toArray:=by simp
  have e2:(acc++its)++(ao k its).flatten=acc++(ao (k+1) its).flatten:=by
   rw [List.replicate_succ,List.flatten_cons,List.append_assoc]
  rw [<-e2, <-k8 its k (acc++its), <-e,List.replicate_succ,List.foldl_cons]
section
variable {X:Cx} {pins:List (Addr×Obj)} {σ:St} {H:Hp} {s:Shared} {l b:Addr} {xs ys zs:List V}
theorem Inv.lset {its its':List Value} {n:Nat} {f:Array Value->Array Value} {t':Nat} (I:Inv X pins σ H s) (hH:H l=some (.lst xs))
  (e:s.heap.get? l=some { cls:= .type "list",data:= .seq its.toArray n }) (hf:f its.toArray=its'.toArray) (hv:aS ys its') (hz:ys.length<=sizeLine):
  Inv X pins σ (upd H l (.lst ys)) { s with heap:=s.heap.update l (Obj.mapSeq f),toks:=t' }:=by
 have q:=PySem.IsL.update e f
 rw [hf] at q
 refine I.write (x:=l) (e:=l) (by rw [hH];exact trivial) (.inl rfl) (fun b' u hb hu=>(Heap.get?_update_other s.heap (Obj.mapSeq f) (Ne.symm hb)).trans hu) ⟨_,q⟩ ?_
 exact⟨hz,its',_,hv,q⟩
theorem Inv.lnew {its:List Value} {t':Nat} (I:Inv X pins σ H s) (hv:aS ys its) (hz:ys.length<=sizeLine):
  Inv X pins σ (upd H s.heap.objs.size (.lst ys)) { s with heap:=s.heap.push { cls:= .type "list",data:= .seq its.toArray },toks:=t' }:=
 I.laid (fun _ _ q=>ag _ q) (ak _) ⟨hz,its,0,hv,ah _ rfl⟩
theorem Inv.fresh (I:Inv X pins σ H s):H s.heap.objs.size=none:=I.hok.fresh (ak _)
theorem Inv.lstM (I:Inv X pins σ H s) (hH:H l=some (.lst xs)):xs.length<=sizeLine/\ ∃ (its:List Value) (n:Nat),aS xs its/\xs.length=its.length/\s.heap.get? l=some { cls:= .type "list",data:= .seq its.toArray n }:=by
 obtain⟨z,its,n,r,e⟩:=I.hok l _ hH
 exact⟨z,its,n,r,r.length,e⟩
theorem oE {n:Nat} (h:n<=sizeLine):Builtin.List.listTooLong n=false:=by
 unfold Builtin.List.listTooLong
 exact decide_eq_false (by omega)
end
section
variable {X:Cx}
noncomputable def aA4:V->List V->Hp->VK->Prop:=fun x vs H Q=> ∃ l xs y,x= .ref l/\vs=[y]/\H l=some (.lst xs)/\xs.length<sizeLine/\Q .non (upd H l (.lst (xs++[y])))
theorem eV:MtM X "list.append" aA4:=by
 intro pins s σ H x vs v us Q I rx rv h
 obtain⟨l,xs,y,rfl,rfl,hH,hz,q⟩:=h
 cases rx
 obtain⟨u,rfl,ru⟩:=rv.one
 obtain⟨z,its,n,r,hl,e⟩:=I.lstM hH
 refine call_meets F.slot_list_append ⟨_,e,rfl⟩ F.entry_list_append (F.args_list_append_2 _ _) (PySem.list_append l its.toArray n u (by rw [ax];omega)) ⟨e, ?_⟩
 refine⟨.non,_,I.lset (its':=its++[u]) hH e (by simp) (r.append (.cons ru .nil)) ?_,rfl,q⟩
 rw [bq,List.length_singleton]
 omega
noncomputable def aMt:V->List V->Hp->VK->Prop:=fun x vs H Q=> ∃ l xs y,x= .ref l/\vs=[]/\H l=some (.lst xs)/\xs[xs.length - 1]? =some y/\Q y (upd H l (.lst xs.dropLast))
theorem aFu:MtM X "list.pop" aMt:=by
 intro pins s σ H x vs v us Q I rx rv h
 obtain⟨l,xs,y,rfl,rfl,hH,hy,q⟩:=h
 cases rx
 have hus:=rv.zero
 subst hus
 obtain⟨z,its,n,r,hl,e⟩:=I.lstM hH
 obtain⟨u,hu,ru⟩:=r.get hy
 have hy':its.toArray[its.toArray.size - 1]? =some u:=by
  show its.toArray[its.length - 1]? =some u
  rw [<-Array.getElem?_toList, <-hl]
  exact hu
 refine call_meets F.slot_list_pop ⟨_,e,rfl⟩ F.entry_list_pop (F.args_list_pop_1 _) (MeetsSeq.list_pop_last l its.toArray n u hy' (by rw [ax];omega)) ⟨e, ?_⟩
 refine⟨y,_,I.lset (its':=its.dropLast) hH e ?_ r.dropLast ?_,ru,q⟩
 ·show its.toArray.eraseIdxIfInBounds (its.toArray.size - 1)=its.dropLast.toArray
  rw [ax,List.eraseIdxIfInBounds_toArray,p7]
 ·rw [List.length_dropLast]
  omega
theorem mR {α:Type} (xs:List α) (k:Nat):(ao k xs).flatten.length=k * xs.length:=by
 induction k with
 | zero=>simp
 | succ k ih=>rw [List.replicate_succ,List.flatten_cons,bq,ih,Nat.succ_mul,Nat.add_comm]
end
section
variable {prog:Program} {w:World} {A:Around} {E:Value->Shared->Prop} {s:Shared}
end
section
variable {X:Cx}
end
end L2
namespace Att
open PySem PySem.W PySem.Calls PyProof.Rows
theorem gW {P:Params} {h:Heap}: ∀ (ns:List Int) (vs:List Value),WellAll P h vs (ns.map WData.int)->IntsAre vs ns:=by
 intro ns
 induction ns with
 | nil=>
  intro vs w
  rw [List.map_nil] at w
  cases w
  exact .nil
 | cons n ns ih=>
  intro vs w
  rw [List.map_cons] at w
  cases w with
  | cons a b=>
   cases a
   exact .cons _ _ (ih _ b)
theorem rR {l:OpenLaw} {n:Nat} (hn:l.most=some n) {P:Params} {h:Heap} {args:List WData} {vals:List Value}
  (hpre:l.row.toRowW.claim.pre args=true) (hwl:WellAll P h vals args):
  ∃ a vs ns,vals=[Value.ref a]/\args=[WData.list (ns.map WData.int)]/\h.get? a=some { cls:= .type "list",data:= .seq vs.toArray }/\IntsAre vs ns/\ns.length<=n:=by
 have hsh:WShape.hasAll [] args [.list .int]=true:=(pre_splitW hpre).1
 have hc:l.pre.holds [] { args:=args }=true:=(pre_splitW hpre).2
 obtain⟨d,r,rfl,h1,h2⟩:=hasAllW_cons hsh
 obtain rfl:=hasAllW_nil h2
 obtain⟨xs,rfl,h3⟩:=hasW_list h1
 obtain⟨ns,rfl⟩:=items_int h3
 have hlen:ns.length<=n:=by
  unfold OpenLaw.pre at hc
  have h4:(WTm.not (.lt (.lit (.int (n:Int))) (.len (.arg 0)))).holds [] { args:=[.list (ns.map .int)] }=true:=by
   have h4:=(holds_andW hc).1
   rw [hn] at h4
   exact h4
  have h5:=condW_of h4 (w_not (w_lt w_lit (w_len_list (w_arg rfl))))
  rw [aq] at h5
  refine Nat.le_of_not_lt fun q=> ?_
  have q':(n:Int)<((ns.length:Nat):Int):=by omega
  first
   | (rw [decide_eq_true q'] at h5;exact absurd h5 (by decide))
   | (simp at h5;omega)
 cases hwl with
 | cons w1 w2=>
  cases w2
  cases w1 with
  | list ho hall=>exact⟨_,_,ns,rfl,rfl,ho,gW ns _ hall,hlen⟩
theorem rS (l:OpenLaw) (args:List WData):l.row.toRowW.claim.post args (.bool true) args=true:=
 postW_of (r:=l.row.toRowW) (X:=(true==true))
  (show WShape.has [] (.bool true) .bool=true by first | rfl | decide | simp [WShape.has,WShape.arms,WShape.armsAll])
  (show(WTm.eq .res (.lit (.bool true))).value [] { args:=args,res:=some (.bool true),after:=args }=some (.bool (true==true)) from w_eq_bool (w_res rfl) w_lit) rfl
theorem attach_call {l:OpenLaw} {n:Nat} {q:Program} {loose:List Str} {XP:(Str->Option Value)->Heap->Prop} {YP:World->Heap->Prop} {d:DefRec}
  (hn:l.most=some n) (hdf:d.params.defaults=[])
  (call: ∀ (w:World) (s₀ s₁:Shared) (mg mb:Str->Option Value) (fa:Addr) (o:Obj) (pm cd doc:Value) (a:Addr) (vs:List Value) (ns:List Int),
   Ground q loose [] XP w s₀ mg mb s₁.heap->YP w s₁.heap->
   s₁.heap.get? fa=some o->o.data= .func (docDef d.name d.params d.body d.scope pm cd doc)->s₁.heap.CodeRec cd d.name->mg d.name=some (.ref fa)->
   s₁.heap.get? a=some { cls:= .type "list",data:= .seq vs.toArray }->IntsAre vs ns->ns.length<=n->s₁.gens= #[]->
   codeAny (model l.prog w) callerA (.call (.ref fa) ⟨[.ref a],[]⟩) (fun r s'=>r= .ok (.ret (.bool true))/\OldK s₁.heap s'.heap/\s'.os=s₁.os/\AllBare s'.gens) s₁):
  WalkO q loose XP YP l.row.toRowW d [] (fun f vs=>PySem.call f vs):=by
 intro w s₀ s₁ mg mb G Y fa o pm cd doc dV kV ho hd hcd hD hmg hg args vals as hpre hlay hrd hwl hlo
 obtain rfl:dV= .none:=Dflts.none hD hdf
 obtain rfl:kV= .none:=Dflts.noKw hD
 obtain⟨a,vs,ns,rfl,rfl,hobj,hints,hlen⟩:=rR hn hpre hwl
 refine enter_call (codeAny_mono (call w s₀ s₁ mg mb fa o pm cd doc a vs ns G Y ho (fd_plain hd) hcd hmg hobj hints hlen hg) fun r s' hq=> ?_)
 obtain⟨rfl,h2,h3,h4⟩:=hq
 exact⟨.inl ⟨.bool true, .bool true,[],rfl,fun _=>rfl, .bool true,rS l _,fun _=>⟨List.Pairwise.nil,fun _ hm=>(nomatch hm)⟩⟩,h2,h3,h4⟩
section
variable {prog:Program} {w:World} {A:Around} {E:Value->Shared->Prop} {s:Shared} {K:Frag}
noncomputable def aLq (h:Heap) (L d:Addr):List (Addr×Obj):=(List.range h.objs.size).filterMap fun a=>if a=L\/a=d then none else(h.get? a).map fun o=>(a,o)
end
end Att
namespace L2
open PySem PySem.Spec PyProof.Rows
theorem k9: ∀ {vs:List Value} {ns:List Int},IntsAre vs ns->aS (ns.map V.int) vs
 | _,_, .nil=> .nil
 | _,_, .cons n t h=> .cons ⟨t,rfl⟩ (k9 h)
def aJv (H:Hp):Prop:= ∀ b,H b=none\/ ∃ o xs,H b=some (.frz o (.lst xs))
noncomputable abbrev KOf {K:PySem.W.Frag} {h:Heap} (_:K.In h):PySem.W.Frag:=K
structure Fun (K:PySem.W.Frag) (x qual:Str) (st:Stmt) (f:Addr) (fd:FuncData):Prop where
 ex: ∃ (oc:Value) (od:Option Addr) (kV doc pm:Value) (an:Option Addr) (cdv ct:Value) (osl:Array (Option Value)),
  fd=PySem.W.fnOf x qual (defArgs st) (defBody st) (defScope st) .none kV doc pm an cdv ct/\K.lookup f=some ⟨oc,od, .func fd,osl⟩/\PySem.W.codeIn K cdv qual=true
 kp:PySem.W.keepIn K (.ref f)=true
section
variable {P:Program} {w:World} {K:PySem.W.Frag} {mg:Str->Option Value} {base:Heap}
theorem Fun.binds {x qual:Str} {st:Stmt} {f:Addr} {fd:FuncData} {ps:List Str} (F:Fun K x qual st f fd)
  (h: ∀ (kV doc pm:Value) (an:Option Addr) (cdv ct:Value) (us:List Value),us.length=ps.length->bindArgs (PySem.W.fnOf x qual (defArgs st) (defBody st) (defScope st) .none kV doc pm an cdv ct) ⟨us,[]⟩=pure (ps.zip us)):dB K fd ps []:=by
 obtain⟨oc,od,kV,doc,pm,an,cdv,ct,osl,rfl,lk,hcd⟩:=F.ex
 exact .all (h kV doc pm an cdv ct)
theorem lC {x qual:Str} {st:Stmt} {f:Addr} {oc:Value} {od an:Option Addr} {osl:Array (Option Value)} {kV doc pm cdv ct:Value} (l:K.lookup f=some ⟨oc,od, .func (PySem.W.fnOf x qual (defArgs st) (defBody st) (defScope st) .none kV doc pm an cdv ct),osl⟩)
  (c:PySem.W.codeIn K cdv qual=true) (k:PySem.W.keepIn K (.ref f)=true):Fun K x qual st f (PySem.W.fnOf x qual (defArgs st) (defBody st) (defScope st) .none kV doc pm an cdv ct):=⟨⟨oc,od,kV,doc,pm,an,cdv,ct,osl,rfl,l,c⟩,k⟩
end
section
variable {X:Cx}
end
theorem q0 {A B:Prop} (h:B):if false=true then A else B:=by
 rw [if_neg bg]
 exact h
theorem p8 {A B:Prop} (h:A):if true=true then A else B:=by
 rw [if_pos rfl]
 exact h
def Same (H H':Hp):Prop:= ∀ b o,H b=some o->H' b=some o
theorem Same.refl (H:Hp):Same H H:=fun _ _ h=>h
theorem Same.trans {H H1 H2:Hp} (a:Same H H1) (b:Same H1 H2):Same H H2:=fun c o h=>b c o (a c o h)
theorem Same.free {H H':Hp} (e:Same H H') {l:Addr} (h:H' l=Option.none):H l=Option.none:=by
 cases q:H l with
 | none=>rfl
 | some o=>
  rw [e l o q] at h
  cases h
theorem Same.seq {K:PySem.W.Frag} {H H':Hp} {a:Addr} {xs:List V} (e:Same H H') (h:SqL K H a xs):SqL K H' a xs:=by
 rcases h with (h | ⟨o,h⟩) | h
 ·exact .inl (.inl (e _ _ h))
 ·exact .inl (.inr ⟨o,e _ _ h⟩)
 ·exact .inr h
end L2
namespace SK
open PySem PySem.Spec PyProof.Rows L2
open PySem.AutoSeq1 (wpAny_loadPart' idx_int)
theorem lD (l:Addr) (items:Array Value) (n:Nat) (b:Addr) (items2:Array Value) (n2:Nat) (dd2:Option Addr) (sl2:Array (Option Value)) (hc0: ¬(!items.isEmpty&&Builtin.List.listTooLong (items.size+items2.size))=true) (hc1:items.size<=sizeLine) (hs2:items.size+items2.size<=sizeLine+1):
  Meets (Builtin.«list.extend» ⟨[.ref l, .ref b],[]⟩) (fun _ R s=>s.heap.get? l=some { cls:= .type "list",dict:=none,data:= .seq items n,slots:= #[] }/\s.heap.get? b=some { cls:= .type "list",dict:=dd2,data:= .seq items2 n2,slots:=sl2 }/\R (.ok (.ret Value.none)) { s with heap:=s.heap.update l (Obj.mapSeq fun x=>x++items2),toks:=s.toks }):=
 .of_wp fun prog w A R s h=>by
  obtain⟨hp,g,d,tk,os⟩:=s;obtain⟨hl,hb,h⟩:=h;have f1:=idx_int;have f2:=AutoSeq1.sub_tuple_tuple;have f3:=AutoSeq1.sub_list_list;have f4:=AutoSeq1.sub_tuple_list;have f5:=AutoSeq1.sub_list_tuple;
  have hz':(items++items2).size<=sizeLine+1:=by rw [Array.size_append];exact hs2
  wp_walk using (wpAny_updateSeq hl rfl (hz:=hc1) (_hz':=hz')),wpAny_loadPart' hl,wpAny_loadPart' hb;exact⟨_,rfl,h⟩
theorem eF (a:Int) (t:Tok) (l:Addr) (items:Array Value) (n:Nat) (T:String) (dd:Option Addr) (sl:Array (Option Value)) (hT:T="list"\/T="tuple"):
  Meets (Builtin.«int.__rmul__» ⟨[.int a t, .ref l],[]⟩) (fun _ R s=>s.heap.get? l=some { cls:= .type T,dict:=dd,data:= .seq items n,slots:=sl }/\R (.ok (.ret Value.notImplemented)) s):=
 .of_wp fun prog w A R s h=>by
  obtain⟨hp,g,d,tk,os⟩:=s;obtain⟨hl,h⟩:=h
  rcases hT with rfl | rfl<;>(wp_walk using wpAny_loadPart' hl;exact⟨_,rfl,h⟩)
theorem rT (l:Addr) (items:Array Value) (n:Nat) (x:Int) (u:Tok) (dd:Option Addr) (sl:Array (Option Value)) (hc0: ¬(!Builtin.List.listFitsIndex x)=true) (hc1: ¬items.size * x.toNat > (2 ^ 63 - 1) / 8) (hc2: ¬Builtin.List.listTooLong (items.size * x.toNat)=true):
  Meets (Builtin.«list.__mul__» ⟨[.ref l, .int x u],[]⟩) (fun _ R s=>s.heap.get? l=some { cls:= .type "list",dict:=dd,data:= .seq items n,slots:=sl }/\R (.ok (.ret (Value.ref s.heap.objs.size))) { s with heap:=s.heap.push { cls:=Value.type "list",data:=Data.seq (List.foldl (fun x1 x2=>x1++x2) #[] (ao (if items.isEmpty=true then 0 else x.toNat) items)) },toks:=s.toks }):=
 .of_wp fun prog w A R s h=>by
  obtain⟨hp,g,d,tk,os⟩:=s;obtain⟨hl,h⟩:=h
  have hsz:=AutoListH.joined_fits hc2
  wp_walk using wpAny_loadPart' hl;refine wpAny_ite_false (decide_eq_false (Nat.not_lt.mpr hsz)) ?_;wp_walk;exact⟨_,rfl,h⟩
open PySem.AutoSeq1 (wpAny_loadPart' idx_int)
theorem mT (l:Addr) (items:Array Value) (n:Nat) (x:Int) (u:Tok) (dd:Option Addr) (sl:Array (Option Value)) (h0:(decide (x< -(2 ^ 63))||decide (x≥2 ^ 63))=false) (hc:(items.isEmpty||x==1)=true):
  Meets (Builtin.«tuple.__mul__» ⟨[.ref l, .int x u],[]⟩) (fun _ R s=>s.heap.get? l=some { cls:= .type "tuple",dict:=dd,data:= .seq items n,slots:=sl }/\R (.ok (.ret (Value.ref l))) s):=
 .of_wp fun prog w A R s h=>by
  obtain⟨hp,g,d,tk,os⟩:=s;obtain⟨hl,h⟩:=h
  have f1:=idx_int
  wp_walk;refine wpAny_ite_false (by rw [h0];rfl) ?_;wp_walk using wpAny_loadPart' hl;exact⟨_,rfl,h⟩
theorem mU (l:Addr) (items:Array Value) (n:Nat) (x:Int) (u:Tok) (dd:Option Addr) (sl:Array (Option Value)) (h0:(decide (x< -(2 ^ 63))||decide (x≥2 ^ 63))=false) (hc: ¬(items.isEmpty||x==1)=true) (hc1:(x<=0||items.isEmpty)=true):
  Meets (Builtin.«tuple.__mul__» ⟨[.ref l, .int x u],[]⟩) (fun _ R s=>s.heap.get? l=some { cls:= .type "tuple",dict:=dd,data:= .seq items n,slots:=sl }/\R (.ok (.ret (Value.ref s.heap.objs.size))) { s with heap:=s.heap.push { cls:=Value.type "tuple",data:=Data.seq #[] },toks:=s.toks }):=
 .of_wp fun prog w A R s h=>by
  obtain⟨hp,g,d,tk,os⟩:=s;obtain⟨hl,h⟩:=h
  have f1:=idx_int
  wp_walk;refine wpAny_ite_false (by rw [h0];rfl) ?_;wp_walk using wpAny_loadPart' hl;exact⟨_,rfl,h⟩
theorem mV (l:Addr) (items:Array Value) (n:Nat) (x:Int) (u:Tok) (dd:Option Addr) (sl:Array (Option Value)) (h0:(decide (x< -(2 ^ 63))||decide (x≥2 ^ 63))=false) (hc: ¬(items.isEmpty||x==1)=true) (hc1: ¬(x<=0||items.isEmpty)=true)
  (hc2: ¬ (items.size:Int) * x > (2 ^ 63 - 1) / 8) (hc3: ¬ Builtin.Tuple.tupleTooMany (items.size * x)=true) (hsz:(List.foldl (fun x1 x2=>x1++x2) #[] (ao x.toNat items)).size<=sizeLine):
  Meets (Builtin.«tuple.__mul__» ⟨[.ref l, .int x u],[]⟩) (fun _ R s=>s.heap.get? l=some { cls:= .type "tuple",dict:=dd,data:= .seq items n,slots:=sl }/\R (.ok (.ret (Value.ref s.heap.objs.size))) { s with heap:=s.heap.push { cls:=Value.type "tuple",data:=Data.seq (List.foldl (fun x1 x2=>x1++x2) #[] (ao x.toNat items)) },toks:=s.toks }):=
 .of_wp fun prog w A R s h=>by
  obtain⟨hp,g,d,tk,os⟩:=s;obtain⟨hl,h⟩:=h
  have f1:=idx_int
  wp_walk;refine wpAny_ite_false (by rw [h0];rfl) ?_;wp_walk using wpAny_loadPart' hl;refine wpAny_ite_false (decide_eq_false hc2) ?_;wp_walk;exact⟨_,rfl,h⟩
theorem fU:fillsNumberSlot (.type "tuple") "mul"=pure false:=
 PySem.fillsNumberSlot_seq (id:="tuple.__mul__") (r:=some (.builtin "tuple.__rmul__")) F.slot_tuple_mul.lookup (by decide+kernel) F.slot_tuple_rmul.lookup (by decide+kernel)
theorem lE:seqRepeat? (.type "tuple")=pure (some (.builtin "tuple.__mul__")):=by
 unfold seqRepeat?
 rw [PySem.seqSlot_of (T:="tuple") (name:="__mul__") (id:="tuple.__mul__") F.slot_tuple_mul.lookup (by decide+kernel),PySem.seqSlot_of (T:="tuple") (name:="__rmul__") (id:="tuple.__rmul__") F.slot_tuple_rmul.lookup (by decide+kernel)]
 rfl
inductive D where
 | non | bl (b:Bool) | int (i:Int) | str (x:Str)
 | tup (xs:List D) | lst (xs:List D)
 | exc (c:Nat) | fn (f:Nat)
 deriving Inhabited
noncomputable def b2i (b:Bool):Int:=if b then 1 else 0
mutual
noncomputable def deq:D->D->Bool
 | .non, .non=>true
 | .bl a, .bl b=>a==b
 | .bl a, .int j=>b2i a==j
 | .int i, .bl b=>i==b2i b
 | .int i, .int j=>i==j
 | .str x, .str y=>x==y
 | .tup xs, .tup ys=>p9 xs ys
 | .lst xs, .lst ys=>p9 xs ys
 | _,_=>false
noncomputable def p9:List D->List D->Bool
 | [],[]=>true
 | x::xs,y::ys=>deq x y&&p9 xs ys
 | _,_=>false
end
mutual
noncomputable def plain:D->Bool
 | .non=>true
 | .bl _=>true
 | .int _=>true
 | .str x=>x.cps.all (· <0x110000)
 | .tup xs=>aY xs
 | .lst xs=>aY xs
 | .exc _=>false
 | .fn _=>false
noncomputable def aY:List D->Bool
 | []=>true
 | x::xs=>plain x&&aY xs
end
mutual
noncomputable def dep:D->Nat
 | .tup xs=>wB xs+1
 | .lst xs=>wB xs+1
 | _=>0
noncomputable def wB:List D->Nat
 | []=>0
 | x::xs=>max (dep x) (wB xs)
end
noncomputable def oF (x y:D):Bool:=plain x&&plain y&&decide (min (dep x) (dep y)<=60)
inductive R where
 | ok (d:D) | ow (xs:List D) | ex (c:Nat) | bad
noncomputable def R.bind (r:R) (k:D->R):R:=match r with
 | .ok d=>k d
 | .ow xs=>k (.lst xs)
 | .ex c=> .ex c
 | .bad=> .bad
structure Rk where
 held:List (Str×D)
 done:List D
 undone:List D
inductive RM where
 | pure (x:R) | chg (x:D) (r:Rk)
abbrev FM:=Rk->List D->RM
noncomputable def RM.told:RM->R
 | .pure x=>x
 | .chg _ _=> .bad
inductive Slot where
 | no | sh (d:D) | ow (xs:List D) | dc (kvs:List (D×D)) | sd (kvs:List (D×D)) | rk (C:Nat) (r:Rk)
noncomputable def Slot.isRk:Slot->Bool
 | .rk _ _=>true
 | _=>false
noncomputable def Slot.owns:Slot->Bool
 | .ow _=>true
 | .dc _=>true
 | _=>false
abbrev Rho:=List Slot
abbrev F:=Rho->R
inductive Out where
 | nx (ρ:Rho) | rt (r:R) | bk (ρ:Rho) | ct (ρ:Rho) | ex (c:Nat) (ρ:Rho)
abbrev FS:=Rho->Out
abbrev Fn:=List D->R
noncomputable def LIM:Nat:=100000
noncomputable def num:D->Option Int
 | .int i=>some i
 | .bl b=>some (b2i b)
 | _=>none
noncomputable def sml (i:Int):Bool:=decide (-18446744073709551616<i)&&decide (i<18446744073709551616)
noncomputable def cE (op:Operator) (i j:Int):R:=match op with
 | .Add=> .ok (.int (i+j))
 | .Sub=> .ok (.int (i - j))
 | .Mult=>if sml i||sml j then .ok (.int (i * j)) else .bad
 | .FloorDiv=>if 0<j/\j<1073741824 then .ok (.int (i / j)) else .bad
 | .Mod=>if 0<j then .ok (.int (i % j)) else .bad
 | .LShift=>if 0<=j/\j<=1000/\sml i=true then .ok (.int (i * 2 ^ j.toNat)) else .bad
 | .RShift=>if 0<=j then .ok (.int (i / 2 ^ j.toNat)) else .bad
 | _=> .bad
noncomputable def aIx (xs:List D) (k:Int):List D:=(ao k.toNat xs).flatten
noncomputable def iN (op:Operator) (x y:D):R:=match x,y with
 | .int i, .int j=>(match op with
  | .BitAnd=> .ok (.int (Builtin.bitAnd i j))
  | .BitOr=> .ok (.int (Builtin.bitOr i j))
  | .BitXor=> .ok (.int (Builtin.bitXor i j))
  | op=>cE op i j)
 | .int i, .bl b=>(match op with
  | .Sub=> .ok (.int (i - b2i b))
  | .Add=> .ok (.int (i+b2i b))
  | _=> .bad)
 | .tup xs, .tup ys=>(match op with
  | .Add=>if xs.length+ys.length<=LIM then .ok (.tup (xs++ys)) else .bad
  | _=> .bad)
 | .lst xs, .lst ys=>(match op with
  | .Add=>if xs.length+ys.length<=LIM then .ow (xs++ys) else .bad
  | _=> .bad)
 | .tup xs, .int k=>(match op with
  | .Mult=>if -1000000<k/\k<1000000/\xs.length * k.toNat<=LIM then .ok (.tup (aIx xs k)) else .bad
  | _=> .bad)
 | .lst xs, .int k=>(match op with
  | .Mult=>if -1000000<k/\k<1000000/\xs.length * k.toNat<=LIM then .ow (aIx xs k) else .bad
  | _=> .bad)
 | _,_=> .bad
noncomputable def items:D->Option (List D)
 | .tup xs=>some xs
 | .lst xs=>some xs
 | _=>none
noncomputable def qA (x:Str):List D:=x.cps.toList.map fun c=>D.str ⟨#[c]⟩
noncomputable def lF:D->Option (List D)
 | .tup xs=>some xs
 | .lst xs=>some xs
 | .str x=>if x.cps.size<=1000 then some (qA x) else none
 | _=>none
noncomputable def aA5:D->Bool
 | .non=>true
 | _=>false
noncomputable def aJw (b:Bool):D->Bool
 | .bl a=>a==b
 | _=>false
noncomputable def mF (x:D) (ys:List D):Bool:=ys.all fun y=>oF y x
noncomputable def fX (op:CmpOp) (x y:D):R:=match op with
 | .Eq=>if oF x y then .ok (.bl (deq x y)) else .bad
 | .NotEq=>if oF x y then .ok (.bl (!deq x y)) else .bad
 | .Lt=>(match x,y with | .int i, .int j=> .ok (.bl (decide (i<j))) | _,_=> .bad)
 | .LtE=>(match x,y with | .int i, .int j=> .ok (.bl (decide (i<=j))) | .str i, .str j=> .ok (.bl (!decide (j.cps.toList<i.cps.toList))) | _,_=> .bad)
 | .Gt=>(match x,y with | .int i, .int j=> .ok (.bl (decide (j<i))) | _,_=> .bad)
 | .GtE=>(match x,y with | .int i, .int j=> .ok (.bl (decide (j<=i))) | _,_=> .bad)
 | .Is=>(match y with
  | .non=> .ok (.bl (aA5 x))
  | .bl b=> .ok (.bl (aJw b x))
  | _=> .bad)
 | .IsNot=>(match y with
  | .non=> .ok (.bl (!aA5 x))
  | .bl b=> .ok (.bl (!aJw b x))
  | _=> .bad)
 | .In=>(match items y with | some ys=>if mF x ys then .ok (.bl (ys.any fun y=>deq y x)) else .bad | none=> .bad)
 | .NotIn=>(match items y with | some ys=>if mF x ys then .ok (.bl (!ys.any fun y=>deq y x)) else .bad | none=> .bad)
noncomputable def ixD (n:Nat) (i:Int):Option Nat:=if 0<=i then(if i<n then some i.toNat else none) else if -(n:Int)<=i then some (i+n).toNat else none
noncomputable def dIx (x y:D):R:=match items x,y with
 | some xs, .int i=>(match(ixD xs.length i).bind fun j=>xs[j]? with | some d=> .ok d | none=> .bad)
 | _,_=> .bad
noncomputable def rV (n d:Nat):Option Int->Nat
 | none=>d
 | some v=>if v<0 then(v+n).toNat else min v.toNat n
noncomputable def wC (xs:List D) (lo hi:Option Int):List D:=(xs.drop (rV xs.length 0 lo)).take (rV xs.length xs.length hi - rV xs.length 0 lo)
noncomputable def aFv (x:D) (lo hi:Option Int):R:=match x with
 | .tup xs=> .ok (.tup (wC xs lo hi))
 | .lst xs=> .ow (wC xs lo hi)
 | _=> .bad
noncomputable def aFw:D->(Int->R)->R
 | .int i,k=>k i
 | _,_=> .bad
noncomputable def aD (i:Nat):F:=fun ρ=>match ρ[i]? with | some (.sh d)=> .ok d | _=> .bad
noncomputable def aW (i:Nat):F:=fun ρ=>match ρ[i]? with | some (.sh d)=> .ok d | some (.ow xs)=> .ok (.lst xs) | _=> .bad
noncomputable def aA6 (i:Nat):F:=fun ρ=>match ρ[i]? with | some (.sh d)=> .ok d | some (.ow xs)=> .ow xs | _=> .bad
noncomputable def rK (d:D):F:=fun _=> .ok d
noncomputable def bD (op:Operator) (a b:F):F:=fun ρ=>(a ρ).bind fun x=>(b ρ).bind fun y=>iN op x y
noncomputable def aLr (a:F):F:=fun ρ=>(a ρ).bind fun x=>match x with | .int i=> .ok (.int (-i)) | _=> .bad
noncomputable def qB (a:F):F:=fun ρ=>(a ρ).bind fun x=>match x with | .bl b=> .ok (.bl (!b)) | _=> .bad
noncomputable def mW (a b:F):F:=fun ρ=>(a ρ).bind fun x=>match x with | .bl true=>b ρ | .bl false=> .ok (.bl false) | _=> .bad
noncomputable def rOr (a b:F):F:=fun ρ=>(a ρ).bind fun x=>match x with | .bl true=> .ok (.bl true) | .bl false=>b ρ | _=> .bad
noncomputable def rIf (c a b:F):F:=fun ρ=>(c ρ).bind fun x=>match x with | .bl true=>a ρ | .bl false=>b ρ | _=> .bad
noncomputable def dQ (op:CmpOp) (a b:F):F:=fun ρ=>(a ρ).bind fun x=>(b ρ).bind fun y=>fX op x y
noncomputable def iW (op op':CmpOp) (a b c:F):F:=fun ρ=>(a ρ).bind fun x=>(b ρ).bind fun y=>(fX op x y).bind fun z=>match z with
 | .bl true=>(c ρ).bind fun w=>fX op' y w
 | .bl false=> .ok (.bl false)
 | _=> .bad
inductive RA where
 | ok (ds:List D) | ex (c:Nat) | bad
noncomputable def RA.cons (x:D):RA->RA
 | .ok ds=> .ok (x::ds)
 | .ex c=> .ex c
 | .bad=> .bad
noncomputable def RA.then (r:RA) (k:List D->R):R:=match r with
 | .ok ds=>k ds
 | .ex c=> .ex c
 | .bad=> .bad
noncomputable def args:List F->Rho->RA
 | [],_=> .ok []
 | f::fs,ρ=>match f ρ with
  | .ok x=>(args fs ρ).cons x
  | .ow xs=>(args fs ρ).cons (.lst xs)
  | .ex c=> .ex c
  | .bad=> .bad
noncomputable def mG (fs:List F) (ρ:Rho) (k:List D->R):R:=(args fs ρ).then k
noncomputable def bS (fs:List F):F:=fun ρ=>mG fs ρ fun xs=> .ok (.tup xs)
noncomputable def cJ (fs:List F):F:=fun ρ=>mG fs ρ fun xs=> .ow xs
noncomputable def rIx (a b:F):F:=fun ρ=>(a ρ).bind fun x=>(b ρ).bind fun y=>dIx x y
noncomputable def aJx (a:F) (lo hi:Option F):F:=fun ρ=>(a ρ).bind fun x=>match lo,hi with
 | none,none=>aFv x none none
 | some l,none=>(l ρ).bind fun y=>aFw y fun i=>aFv x (some i) none
 | none,some h=>(h ρ).bind fun z=>aFw z fun j=>aFv x none (some j)
 | some l,some h=>(l ρ).bind fun y=>aFw y fun i=>(h ρ).bind fun z=>aFw z fun j=>aFv x (some i) (some j)
noncomputable def aH (f:Fn) (fs:List F):F:=fun ρ=>mG fs ρ f
noncomputable def rW (tab:List (Nat×Fn)) (g:F) (fs:List F):F:=fun ρ=>(g ρ).bind fun x=>match x with
 | .fn k=>(match tab[k]? with | some (n,f)=>if n=fs.length then mG fs ρ f else .bad | none=> .bad)
 | _=> .bad
noncomputable def jI (r:Fn) (a b:F):F:=fun ρ=>(a ρ).bind fun x=>match x with | .lst ds=>(b ρ).bind fun y=>r [.lst ds,y] | _=> .bad
noncomputable def rIs (p:D->Option Bool) (a:F):F:=fun ρ=>(a ρ).bind fun x=>match p x with | some b=> .ok (.bl b) | none=> .bad
noncomputable def bZ (f:D->Option (Option D)):List D->Option (List D)
 | []=>some []
 | d::r=>match f d with
  | none=>none
  | some none=>bZ f r
  | some (some x)=>(bZ f r).map (x:: ·)
noncomputable def tgt (n:Nat) (d:D):Option (List Slot):=match n with
 | 0=>some [.sh d]
 | n=>match d with
  | .tup ds=>if ds.length=n then some (ds.map Slot.sh) else none
  | _=>none
noncomputable def q8 (cs:List Nat) (ρ:Rho):List Slot:=cs.map fun i=>(ρ[i]?).getD .no
noncomputable def d9 (n:Nat) (cs:List Slot) (c:Option F) (e:F) (d:D):Option (Option D):=match tgt n d with
 | none=>none
 | some ts=>match c with
  | none=>(match e (ts++cs) with | .ok x=>some (some x) | .ow xs=>some (some (.lst xs)) | _=>none)
  | some c=>match c (ts++cs) with
   | .ok (.bl true)=>(match e (ts++cs) with | .ok x=>some (some x) | .ow xs=>some (some (.lst xs)) | _=>none)
   | .ok (.bl false)=>some none
   | _=>none
noncomputable def eW (n:Nat) (cs:List Nat) (it:F) (c:Option F) (e:F):F:=fun ρ=>(it ρ).bind fun x=>match lF x with
 | some ds=>(match bZ (d9 n (q8 cs ρ) c e) ds with | some xs=> .ow xs | none=> .bad)
 | none=> .bad
noncomputable def aFx (n:Nat):List D:=(List.range n).map fun(i:Nat)=>D.int (i:Int)
noncomputable def gX (a:F):F:=fun ρ=>(a ρ).bind fun x=>aFw x fun i=>if -100000<=i/\i<=100000 then .ok (.lst (aFx i.toNat)) else .bad
noncomputable def aMu (a:F):F:=fun ρ=>(a ρ).bind fun x=>match items x with
 | some xs=> .ok (.lst (xs.zipIdx.map fun p=>D.tup [.int (p.2:Nat),p.1]))
 | none=> .bad
noncomputable def aEi (a b:F):F:=fun ρ=>(a ρ).bind fun x=>(b ρ).bind fun y=>match x,y with
 | .tup xs, .tup ys=> .ok (.lst ((xs.zip ys).map fun p=>D.tup [p.1,p.2]))
 | .lst xs, .lst ys=> .ok (.lst ((xs.zip ys).map fun p=>D.tup [p.1,p.2]))
 | .lst xs, .tup ys=> .ok (.lst ((xs.zip ys).map fun p=>D.tup [p.1,p.2]))
 | .tup xs, .lst ys=> .ok (.lst ((xs.zip ys).map fun p=>D.tup [p.1,p.2]))
 | _,_=> .bad
noncomputable def aLs:D->R | .str z=>if z.length<=100000 then .ok (.int z.length) else .bad | _=> .bad
noncomputable def q9:Fn | [x]=>(match items x with | some xs=> .ok (.int xs.length) | none=>aLs x) | _=> .bad
noncomputable def aLt:Fn | [.int i]=> .ok (.int i) | [.bl b]=> .ok (.int (b2i b)) | _=> .bad
noncomputable def iX:Fn | [x]=>(match items x with | some xs=> .ok (.tup xs) | none=> .bad) | _=> .bad
noncomputable def aFy:Fn | [x]=>(match items x with | some xs=> .ow xs | none=> .bad) | _=> .bad
noncomputable def eA:List D->Option (List Int)
 | []=>some []
 | .int i::r=>(eA r).map (i:: ·)
 | _::_=>none
noncomputable def eX:List D->Option (List Bool)
 | []=>some []
 | .bl b::r=>(eX r).map (b:: ·)
 | _::_=>none
noncomputable def aLu:Fn | [x]=>(match(items x).bind eA with | some xs=> .ok (.int xs.sum) | none=> .bad) | _=> .bad
noncomputable def aIy:Fn | [x]=>(match(items x).bind eX with | some xs=> .ok (.bl (xs.all id)) | none=> .bad) | _=> .bad
noncomputable def aNo:Fn | [x]=>(match(items x).bind eX with | some xs=> .ok (.bl (xs.any id)) | none=> .bad) | _=> .bad
noncomputable def aNp:Fn | [.int i, .int j]=> .ok (.int (if j > i then j else i)) | _=> .bad
noncomputable def aNq:Fn | [.int i, .int j]=> .ok (.int (if j<i then j else i)) | _=> .bad
noncomputable def vO:Int->List Int->Int
 | m,[]=>m
 | m,i::r=>vO (if m<i then i else m) r
noncomputable def aLv:Int->List Int->Int
 | m,[]=>m
 | m,i::r=>aLv (if i<m then i else m) r
noncomputable def aMv:Fn | [x]=>(match(items x).bind eA with | some (n::ns)=> .ok (.int (vO n ns)) | _=> .bad) | _=> .bad
noncomputable def aNr:Fn | [.int i]=> .ok (.int (if i<0 then -i else i)) | _=> .bad
noncomputable def aLw (i:Int):List Int->List Int
 | []=>[i]
 | j::r=>if i<=j then i::j::r else j::aLw i r
noncomputable def aFz:List Int->List Int
 | []=>[]
 | i::r=>aLw i (aFz r)
noncomputable def mX:List Int->List Int->Bool
 | [],[]=>false
 | [],_::_=>true
 | _::_,[]=>false
 | a::r,b::t=>if a=b then mX r t else decide (a<b)
mutual
noncomputable def same:D->D->Bool
 | .int _, .int _=>true
 | .tup xs, .tup ys=>bO xs ys
 | _,_=>false
noncomputable def bO:List D->List D->Bool
 | [],[]=>true
 | x::xs,y::ys=>same x y&&bO xs ys
 | _,_=>false
end
mutual
noncomputable def oG:D->List Int
 | .int i=>[i]
 | .tup xs=>gY xs
 | _=>[]
noncomputable def gY:List D->List Int
 | []=>[]
 | x::xs=>oG x++gY xs
end
noncomputable def ltD (x y:D):Bool:=mX (oG x) (oG y)
noncomputable def aLx (a:D):List D->List D
 | []=>[a]
 | b::r=>if ltD b a then b::aLx a r else a::b::r
noncomputable def aA7:List D->List D
 | []=>[]
 | a::r=>aLx a (aA7 r)
noncomputable def aLy (d:D):List D->D
 | []=>d
 | e::r=>aLy (if ltD e d then e else d) r
noncomputable def aF0:D->Bool
 | .tup (_::_)=>true
 | _=>false
noncomputable def yP:D->Bool
 | .tup _=>true
 | _=>false
noncomputable def aA8:List D->Bool
 | []=>false
 | d::r=>yP d&&(r.isEmpty||aF0 d)&&decide (dep d<=8)&&same d d&&r.all (same d)
noncomputable def aMw (acc:List D) (d:D):List D:=if acc.any (fun e=>deq e d) then acc else acc++[d]
noncomputable def ddD (ds:List D):List D:=ds.foldl aMw []
noncomputable def aJy (ds:List D):R:=if aA8 ds then(match ds with | d::r=> .ok (aLy d r) | []=> .bad) else .bad
noncomputable def aJz (ds:List D):R:=match eA ds with
 | some ns=>(match ns with | n::r=> .ok (.int (aLv n r)) | []=> .bad)
 | none=>aJy ds
noncomputable def aMx:Fn | [x]=>(match items x with | some ds=>aJz ds | none=> .bad) | _=> .bad
noncomputable def wD (ds:List D):R:=if aA8 ds&&decide (ds.length<64) then .ow (aA7 ds) else .bad
noncomputable def wE (ds:List D):R:=match eA ds with
 | some ns=>if ns.length<64 then .ow ((aFz ns).map D.int) else .bad
 | none=>wD ds
noncomputable def aJ0:Fn | [x]=>(match items x with | some ds=>wE ds | none=> .bad) | _=> .bad
noncomputable def aLz (ns:List Int):List Int:=((List.range 17).filter fun(k:Nat)=>ns.contains (k:Int)).map fun(k:Nat)=>(k:Int)
noncomputable def aL0 (ns:List Int):Bool:=ns.all fun n=>decide (0<=n/\n<17)
noncomputable def aMy (ds:List D):R:=if aA8 ds&&decide ((ddD ds).length<64) then .ow (aA7 (ddD ds)) else .bad
noncomputable def aMz (ds:List D):R:=match eA ds with | some ns=>if aL0 ns then .ow ((aLz ns).map D.int) else .bad | none=>aMy ds
noncomputable def dSS:Fn | [x]=>(match x with | .lst ds=>aMz ds | _=> .bad) | _=> .bad
noncomputable def aM0 (ds:List D):R:=match eA ds with | some ns=>if aL0 ns then .ok (.int ((aLz ns).length:Nat)) else .bad | none=> .bad
noncomputable def dLS:Fn | [x]=>(match x with | .lst ds=>aM0 ds | _=> .bad) | _=> .bad
noncomputable def aM1 (i:Int):List Int->Int
 | []=>i
 | n::ns=>vO n ns
noncomputable def aM2 (i:Int):Fn | [x]=>(match(items x).bind eA with | some ns=> .ok (.int (aM1 i ns)) | none=> .bad) | _=> .bad
noncomputable def lG:Fn | [.lst ys,x]=>if mF x ys then .ok (.int ((ys.countP fun y=>deq y x):Nat)) else .bad | _=> .bad
noncomputable def lI:Fn | [.lst ys,x]=>if mF x ys then(match ys.findIdx? fun y=>deq y x with | some k=> .ok (.int (k:Nat)) | none=> .bad) else .bad | _=> .bad
noncomputable def aM3 (x:D):R:=match x with | .lst xs=> .ow xs.reverse | .tup xs=> .ok (.tup xs.reverse) | _=> .bad
noncomputable def aF1:Fn | [x]=>(match x with | .int i=> .ok (.int (Builtin.Int.intBits i)) | _=> .bad) | _=> .bad
noncomputable def aNs (a:F):F:=fun ρ=>(a ρ).bind aM3
noncomputable def aJ1 {α:Type} (xs:List α) (lo:Nat):List α:=(List.range ((xs.length - lo+1) / 2)).filterMap fun k=>xs[lo+2 * k]?
noncomputable def aJ2 (x y:D):R:=match x with | .tup xs=>(match y with | .int i=>if 0<=i then .ok (.tup (aJ1 xs i.toNat)) else .bad | _=> .bad) | _=> .bad
noncomputable def aM4 (a b:F):F:=fun ρ=>(a ρ).bind fun x=>(b ρ).bind fun y=>aJ2 x y
noncomputable def aNt (a:F):F:=fun ρ=>(a ρ).bind fun x=>match x with | .bl b=> .ok (.bl b) | .lst xs=> .ok (.bl (!xs.isEmpty)) | _=> .bad
noncomputable def aNu (a b:F):F:=fun ρ=>(a ρ).bind fun x=>match x with | .tup ds=>(b ρ).bind fun y=>lI [.lst ds,y] | _=> .bad
noncomputable def aNv (a b:F):F:=fun ρ=>(a ρ).bind fun x=>match items x with | some ds=>(b ρ).bind fun y=>lG [.lst ds,y] | none=> .bad
noncomputable def orP (p q:D->Option Bool):D->Option Bool:=fun d=>match p d,q d with | some a,some b=>some (a||b) | _,_=>none
mutual
noncomputable def hkD:D->Bool
 | .non=>true
 | .int _=>true
 | .tup xs=>yQ xs
 | _=>false
noncomputable def yQ:List D->Bool
 | []=>true
 | x::xs=>hkD x&&yQ xs
end
noncomputable def aJ3 (k:D):Bool:=yP k&&hkD k&&decide (dep k<=8)
noncomputable def aM5 (kvs:List (D×D)) (k:D):Bool:=kvs.any fun p=>deq p.1 k
noncomputable def putK (kvs:List (D×D)) (k d:D):List (D×D):=if aM5 kvs k then kvs.map (fun p=>if deq p.1 k then(p.1,d) else p) else kvs++[(k,d)]
noncomputable def inK (op:CmpOp) (b:Bool):R:=match op with
 | .In=> .ok (.bl b)
 | .NotIn=> .ok (.bl !b)
 | _=> .bad
noncomputable def aIz (op:CmpOp) (a:F) (i:Nat):F:=fun ρ=>(a ρ).bind fun x=>match ρ[i]? with
 | some (.sh y)=>fX op x y
 | some (.ow ys)=>fX op x (.lst ys)
 | _=> .bad
noncomputable def put (ρ:Rho) (i:Nat) (s:Slot):Rho:=ρ.set i s
noncomputable def frz1 (i:Nat) (ρ:Rho):Rho:=match ρ[i]? with | some (.ow xs)=>ρ.set i (.sh (.lst xs)) | some (.dc kvs)=>ρ.set i (.sd kvs) | _=>ρ
noncomputable def frz (is:List Nat) (ρ:Rho):Rho:=is.foldl (fun ρ i=>frz1 i ρ) ρ
noncomputable def aM6 (is:List Nat) (s:FS):FS:=fun ρ=>s (frz is ρ)
noncomputable def fE (ρ:Rho) (r:R) (k:D->Out):Out:=match r with
 | .ok d=>k d
 | .ow xs=>k (.lst xs)
 | .ex c=> .ex c ρ
 | .bad=> .rt .bad
noncomputable def mH (i:Nat) (e:F):FS:=fun ρ=>fE ρ (e ρ) fun d=> .nx (ρ.set i (.sh d))
noncomputable def vP (i:Nat) (e:F):FS:=fun ρ=>match e ρ with
 | .ok d=> .nx (ρ.set i (.sh d))
 | .ow xs=> .nx (ρ.set i (.ow xs))
 | .ex c=> .ex c ρ
 | .bad=> .rt .bad
noncomputable def setN:List Nat->List D->Rho->Rho
 | i::is,d::ds,ρ=>setN is ds (ρ.set i (.sh d))
 | _,_,ρ=>ρ
noncomputable def aA9 (is:List Nat) (e:F):FS:=fun ρ=>fE ρ (e ρ) fun d=>match d with
 | .tup ds=>if ds.length=is.length then .nx (setN is ds ρ) else .rt .bad
 | .lst ds=>if ds.length=is.length then .nx (setN is ds ρ) else .rt .bad
 | _=> .rt .bad
noncomputable def aNw (i:Nat) (op:Operator) (e:F):FS:=fun ρ=>match ρ[i]? with
 | some (.sh (.int a))=>fE ρ (e ρ) fun d=>(match d,op with
  | .int b, .Add=> .nx (ρ.set i (.sh (.int (a+b))))
  | .int b, .Sub=> .nx (ρ.set i (.sh (.int (a - b))))
  | _,_=> .rt .bad)
 | _=> .rt .bad
noncomputable def lJ (e:F):FS:=fun ρ=>fE ρ (e ρ) fun _=> .nx ρ
noncomputable def cU (e:F):FS:=fun ρ=>match e ρ with
 | .ok d=> .rt (.ok d)
 | .ow xs=> .rt (.ow xs)
 | .ex c=> .ex c ρ
 | .bad=> .rt .bad
noncomputable def aF2:FS:=fun _=> .rt (.ok .non)
noncomputable def aX:FS:=fun ρ=> .nx ρ
noncomputable def aL1:FS:=fun ρ=> .bk ρ
noncomputable def aF3:FS:=fun ρ=> .ct ρ
noncomputable def bE (a b:FS):FS:=fun ρ=>match a ρ with | .nx ρ'=>b ρ' | o=>o
noncomputable def sIf (c:F) (a b:FS):FS:=fun ρ=>match c ρ with
 | .ok (.bl true)=>a ρ
 | .ok (.bl false)=>b ρ
 | .ex c=> .ex c ρ
 | _=> .rt .bad
noncomputable def iY (c:Nat):FS:=fun ρ=> .ex c ρ
noncomputable def iZ (i:Nat) (e:F):FS:=fun ρ=>match ρ[i]? with
 | some (.ow xs)=>fE ρ (e ρ) fun d=>if xs.length<LIM then .nx (ρ.set i (.ow (xs++[d]))) else .rt .bad
 | _=> .rt .bad
noncomputable def iO (i:Nat) (e:F):FS:=fun ρ=>match ρ[i]? with
 | some (.ow xs)=>fE ρ (e ρ) fun d=>(match d with
  | .lst ys=>if xs.length+ys.length<=LIM then .nx (ρ.set i (.ow (xs++ys))) else .rt .bad
  | _=> .rt .bad)
 | _=> .rt .bad
noncomputable def aJ4 (i:Nat) (k e:F):FS:=fun ρ=>fE ρ (e ρ) fun d=>match ρ[i]? with
 | some (.ow xs)=>fE ρ (k ρ) fun y=>(match y with
  | .int j=>(match ixD xs.length j with | some m=> .nx (ρ.set i (.ow (xs.set m d))) | none=> .rt .bad)
  | _=> .rt .bad)
 | _=> .rt .bad
noncomputable def aM7:List D->Option (D×D)
 | [a,b]=>some (a,b)
 | _=>none
noncomputable def aM8:D->Option (D×D)
 | .tup ds=>aM7 ds
 | _=>none
noncomputable def aM9 (i:Nat) (k l e:F):FS:=fun ρ=>fE ρ (e ρ) fun d=>(match aM8 d with
 | some (d1,d2)=>(match ρ[i]? with
  | some (.ow xs)=>fE ρ (k ρ) fun y=>(match y with
   | .int j=>(match ixD xs.length j with
    | some m=>fE (ρ.set i (.ow (xs.set m d1))) (l (ρ.set i (.ow (xs.set m d1)))) fun z=>(match z with
     | .int j2=>(match ixD (xs.set m d1).length j2 with
      | some m2=> .nx ((ρ.set i (.ow (xs.set m d1))).set i (.ow ((xs.set m d1).set m2 d2)))
      | none=> .rt .bad)
     | _=> .rt .bad)
    | none=> .rt .bad)
   | _=> .rt .bad)
  | _=> .rt .bad)
 | none=> .rt .bad)
noncomputable def aNa (i:Nat) (k e:F):FS:=fun ρ=>match ρ[i]? with
 | some (.ow xs)=>fE ρ (k ρ) fun y=>(match y with
  | .int j=>(match ixD xs.length j with
   | some m=>(match xs[m]? with
    | some (.int a)=>fE ρ (e ρ) fun d=>(match d with
     | .int b=> .nx (ρ.set i (.ow (xs.set m (.int (a+b)))))
     | _=> .rt .bad)
    | _=> .rt .bad)
   | none=> .rt .bad)
  | _=> .rt .bad)
 | _=> .rt .bad
noncomputable def iP (is:List Nat) (one:Bool) (d:D) (ρ:Rho):Option Rho:=match one,is with
 | true,[i]=>some (ρ.set i (.sh d))
 | false,is=>(match d with
  | .tup ds=>if ds.length=is.length then some (setN is ds ρ) else none
  | _=>none)
 | _,_=>none
noncomputable def cP (t:D->Rho->Option Rho) (b:FS):List D->Rho->Out
 | [],ρ=> .nx ρ
 | d::r,ρ=>match t d ρ with
  | none=> .rt .bad
  | some ρ1=>match b ρ1 with
   | .nx ρ2=>cP t b r ρ2
   | .ct ρ2=>cP t b r ρ2
   | .bk ρ2=> .nx ρ2
   | .rt r=> .rt r
   | .ex c ρ2=> .ex c ρ2
noncomputable def wF (is:List Nat) (one:Bool) (it:F) (b:FS):FS:=fun ρ=>fE ρ (it ρ) fun x=>match items x with
 | some ds=>cP (iP is one) b ds ρ
 | none=> .rt .bad
noncomputable def aBa (t i:Nat) (g:FS):FS:=fun ρ=>match ρ[i]? with
 | some (.ow ds)=>cP (iP [t] true) g ds ρ
 | _=> .rt .bad
noncomputable def dS (c:F) (b:FS):Nat->FS
 | 0=>fun _=> .rt .bad
 | n+1=>fun ρ=>match c ρ with
  | .ok (.bl true)=>(match b ρ with
   | .nx ρ'=>dS c b n ρ'
   | .ct ρ'=>dS c b n ρ'
   | .bk ρ'=> .nx ρ'
   | .rt r=> .rt r
   | .ex k ρ'=> .ex k ρ')
  | .ok (.bl false)=> .nx ρ
  | .ex k=> .ex k ρ
  | _=> .rt .bad
noncomputable def yR (c:F) (b:FS):FS:=dS c b 1000
noncomputable def aI0:FS:=fun _=> .rt .bad
noncomputable def aNx (i j:Nat) (hit:Nat->Bool) (b:FS):FS:=fun ρ=>match b ρ with
 | .ex c ρ'=>if hit c then .nx ((ρ'.set i .no).set j (.sh (.exc c))) else .ex c ρ'
 | o=>o
noncomputable def fnOf (n:Nat) (b:FS):Fn:=fun ds=>match b (ds.map Slot.sh++ao (n - ds.length) .no) with
 | .rt (.ok d)=> .ok d
 | .rt (.ow xs)=> .ow xs
 | .rt _=> .bad
 | .nx _=> .ok .non
 | .ex c _=> .ex c
 | _=> .bad
inductive Py where
 | len | range | enum | zip | isin | int | bool | str | tuple | list | sum | all | any | sorted | min | max | abs | set
 deriving DecidableEq
inductive Gl where
 | fn (k n:Nat) (f:Fn) | exc (c:Nat) | verr | val (d:D) | py (p:Py) | cls (a:Nat) (ms:List (Str×Nat×FM))
noncomputable def hit (c e:Nat):Bool:=c==e||c==0||c==100
structure Ctx where
 tab:List (Str×Gl)
 fns:List (Nat×Fn)
 sc:Scope
 N:List Str
 bs:List Str
noncomputable def idx (x:Str):List Str->Option Nat
 | []=>none
 | y::r=>if x=y then some 0 else(idx x r).map (· +1)
noncomputable def loc (C:Ctx) (x:Str):Option Nat:=match C.sc.names.lookup x with
 | some .local=>idx x C.N
 | some .cell=>idx x C.N
 | some .free=>idx x C.N
 | _=>none
noncomputable def dD (C:Ctx) (x:Str):Option Nat:=match C.sc.names.lookup x with
 | some .cell=>idx x C.N
 | some .free=>idx x C.N
 | _=>none
noncomputable def glo (C:Ctx) (x:Str):Option Gl:=match C.sc.names.lookup x with
 | some .globalImplicit=>C.tab.lookup x
 | _=>none
noncomputable def isP:Gl->Option (D->Option Bool)
 | .py .int=>some fun d=>match d with | .int _=>some true | .bl _=>some true | .exc _=>none | .fn _=>none | _=>some false
 | .py .bool=>some fun d=>match d with | .bl _=>some true | .exc _=>none | .fn _=>none | _=>some false
 | .py .tuple=>some fun d=>match d with | .tup _=>some true | .exc _=>none | .fn _=>none | _=>some false
 | .py .list=>some fun d=>match d with | .lst _=>some true | .exc _=>none | .fn _=>none | _=>some false
 | .py .str=>some fun d=>match d with | .str _=>some true | .exc _=>none | .fn _=>none | _=>some false
 | .exc c=>some fun d=>match d with | .exc e=>some (hit c e) | _=>none
 | .verr=>some fun d=>match d with | .exc e=>some (hit 100 e) | _=>none
 | _=>none
noncomputable def kD:Const->Option D
 | .int i=>some (.int i)
 | .bool b=>some (.bl b)
 | .none=>some .non
 | .str x=>some (.str x)
 | _=>none
noncomputable def cV {α β:Type} (f:α->Option β):List α->Option (List β)
 | []=>some []
 | x::r=>match f x with
  | none=>none
  | some y=>(cV f r).map (y:: ·)
noncomputable def bH:Expr->Option (List Str×Nat)
 | .Name x _=>some ([x],0)
 | .Tuple es _ _=>(cV (fun(e:Expr)=>match e with | .Name x _=>some x | _=>none) es).bind fun xs=>if 2<=xs.length then some (xs,xs.length) else none
 | _=>none
noncomputable def aN (sc:Scope):List Str:=(sc.names.filter fun p=>p.2== .free).map (·.1)
noncomputable def lK (sc:Scope):List Str:=(sc.names.filter fun p=>p.2== .cell).map (·.1)
noncomputable def gZ (sc:Scope) (xs:List Str):Bool:=
 sc.kind== .function&&((lK sc).isEmpty||(decide (lK sc=xs)&&decide (xs.length=1)))&&xs.all (fun x=>sc.names.lookup x==some (if(lK sc).isEmpty then .local else .cell))&&
  sc.names.all (fun p=>p.2 != .local||sc.names.lookup p.1==some .local)&&decide (xs++aN sc).Nodup&&(xs++aN sc).all (fun x=>x != "__debug__"&&x != "__classdict__")&&(aN sc).all (fun x=>sc.names.lookup x==some .free)
noncomputable def yS:Expr->Bool
 | .Name _ _=>true
 | .Subscript _ _ _=>true
 | .List _ _=>true
 | _=>false
noncomputable def one:List Expr->Option Expr
 | [a]=>some a
 | _=>none
noncomputable def two:List Expr->Option (Expr×Expr)
 | [a,b]=>some (a,b)
 | _=>none
noncomputable def bP:Expr->Option (Str×Pos)
 | .Name x p=>some (x,p)
 | _=>none
noncomputable def aI1:Expr->Option (List Expr×Nat×Pos)
 | .Tuple es k p=>some (es,k,p)
 | _=>none
noncomputable def yT:Expr->Option (Option Expr×Option Expr)
 | .Slice lo hi st _=>(match st with | none=>some (lo,hi) | some _=>none)
 | _=>none
noncomputable def aJ5:Expr->Bool
 | .Constant c _ _=>(match c with | .int i=>i==1 | _=>false)
 | _=>false
noncomputable def aNb:Expr->Bool
 | .UnaryOp op e _=>(match op with | .USub=>aJ5 e | _=>false)
 | _=>false
noncomputable def aF4:Expr->Bool
 | .Name _ _=>true
 | _=>false
noncomputable def aL2:Expr->Bool
 | .Subscript _ _ _=>true
 | _=>false
noncomputable def aJ6:Expr->Bool
 | .Constant c _ _=>(match c with | .none=>true | _=>false)
 | _=>false
noncomputable def aJ7:Expr->Bool
 | .Constant c _ _=>(match c with | .int i=>i==2 | _=>false)
 | _=>false
noncomputable def aNc:Expr->Option Expr
 | .Slice lo hi st _=>if hi.isNone&&(match st with | none=>false | some e=>aJ7 e) then lo else none
 | _=>none
noncomputable def aNy:Expr->Bool
 | .Slice lo hi st _=>lo.isNone&&hi.isNone&&(match st with | none=>false | some e=>aNb e)
 | _=>false
noncomputable def aNd (e:Expr):Option (Str×Str):=(aI1 e).bind fun(es,_)=>(two es).bind fun(u,v)=>(bP u).bind fun(x,_)=>(bP v).map fun(y,_)=>(x,y)
noncomputable def aBb:Expr->Bool
 | .Constant c _ _=>(match c with | .str _=>true | _=>false)
 | _=>false
noncomputable def aF5 (dE:Expr->Option F) (C:Ctx) (a:Expr):Option F:=match a with
 | .Call f as kws _=>if kws.isEmpty then(bP f).bind fun(x,_)=>(one as).bind fun b=>(match loc C x,glo C x with
  | none,some (.py .range)=>dE b
  | _,_=>none) else none
 | _=>none
noncomputable def vQ (b:Bool) (r:Rk):List D:=if b then r.done else r.undone
noncomputable def wG (A i:Nat) (k:Rk->R):F:=fun ρ=>match ρ[i]? with
 | some (.rk C r)=>if C=A then k r else .bad
 | _=> .bad
noncomputable def yU (A i:Nat) (b:Bool):F:=wG A i fun r=> .ok (.lst (vQ b r))
noncomputable def mY (kvs:List (Str×D)) (x:Str):Option D:=(kvs.find? fun p=>decide (p.1=x)).map (·.2)
noncomputable def aEj (neg:Bool) (A i:Nat) (f:F):F:=fun ρ=>(f ρ).bind fun d=>wG A i (fun r=>match d with
 | .str x=> .ok (.bl (neg != (mY r.held x).isSome))
 | _=> .bad) ρ
noncomputable def rX (A i:Nat) (f:F):F:=fun ρ=>wG A i (fun r=>(f ρ).bind fun d=>match d with
 | .str x=>(match mY r.held x with | some d=> .ok d | none=> .bad)
 | _=> .bad) ρ
noncomputable def wH (A i:Nat) (f:F):F:=fun ρ=>wG A i (fun r=>(f ρ).bind fun d=>match d with
 | .str x=> .ok ((mY r.held x).getD .non)
 | _=> .bad) ρ
noncomputable def bQ (A i:Nat) (m:FM) (fs:List F):F:=fun ρ=>wG A i (fun r=>mG fs ρ fun ds=>(m r ds).told) ρ
noncomputable def ltS (x y:Str):Bool:=decide (x.cps.toList<y.cps.toList)
noncomputable def aBc (x:Str):List Str->List Str
 | []=>[x]
 | y::l=>if ltS y x then y::aBc x l else x::y::l
noncomputable def jJ:List Str->List Str
 | []=>[]
 | x::l=>aBc x (jJ l)
noncomputable def aBd (A i:Nat):F:=wG A i fun r=>if r.held.length<64 then .ow ((jJ (r.held.map (·.1))).map D.str) else .bad
noncomputable def wI:Expr->Option (Expr×Str×Pos)
 | .Attribute o f p=>some (o,f,p)
 | _=>none
noncomputable def atF (C:Ctx) (f:Str) (e:Expr):Option Nat:=(wI e).bind fun(o,g,_)=>if g=f then(bP o).bind fun(x,_)=>loc C x else none
noncomputable def aEk (C:Ctx) (e:Expr):Option (Nat×Bool):=match atF C "done" e with
 | some i=>some (i,true)
 | none=>(atF C "undone" e).map fun i=>(i,false)
noncomputable def rkc (C:Ctx):Option (Nat×List (Str×Nat×FM)):=match C.tab.lookup ("Rack":Str) with
 | some (.cls a ms)=>some (a,ms)
 | _=>none
noncomputable def aJ8:CmpOp->Option Bool
 | .In=>some false
 | .NotIn=>some true
 | _=>none
noncomputable def aF6 (dE:Expr->Option F) (C:Ctx) (A:Nat) (op:CmpOp) (a b:Expr):Option F:=match aJ8 op with
 | some neg=>(atF C "held" b).bind fun i=>(dE a).map fun f=>aEj neg A i f
 | none=>(aEk C a).bind fun(i,bb)=>(dE b).map fun g=>dQ op (yU A i bb) g
noncomputable def aF7 (dE:Expr->Option F) (C:Ctx) (A:Nat) (ms:List (Str×Nat×FM)) (o:Expr) (m:Str) (as:List Expr):Option F:=match bP o with
 | some (x,_)=>(loc C x).bind fun i=>(ms.lookup m).bind fun(n,M)=>if as.length<20 then(cV dE as).bind fun fs=>if fs.length=n then some (bQ A i M fs) else none else none
 | none=>if m="get" then(atF C "held" o).bind fun i=>(one as).bind fun a=>(dE a).map fun g=>wH A i g else none
noncomputable def aL3 (C:Ctx) (A:Nat) (x:Str) (a:Expr):Option F:=match glo C x with
 | some (.py .sorted)=>(atF C "held" a).map fun i=>aBd A i
 | some (.py .len)=>(aEk C a).map fun(i,bb)=>aH q9 [yU A i bb]
 | _=>none
noncomputable def rkE (dE:Expr->Option F) (C:Ctx) (e:Expr):Option F:=match rkc C with
 | none=>none
 | some (A,ms)=>(match e with
  | .Compare a [op] cs _=>(one cs).bind fun b=>aF6 dE C A op a b
  | .Subscript a b _=>(atF C "held" a).bind fun i=>(dE b).map fun g=>rX A i g
  | .Call f as kws cp=>if kws.isEmpty then(match f with
   | .Attribute o m ap=>if(ap.endLine==cp.line)=true then aF7 dE C A ms o m as else none
   | .Name x _=>(one as).bind fun a=>aL3 C A x a
   | _=>none) else none
  | _=>none)
noncomputable def aBe (dE dL:Expr->Option F) (C:Ctx) (p:Py) (as:List Expr):Option F:=match p with
 | .len=>(one as).bind fun a=>(dL a).map fun f=>aH q9 [f]
 | .int=>(one as).bind fun a=>(dL a).map fun f=>aH aLt [f]
 | .tuple=>(one as).bind fun a=>(dL a).map fun f=>aH iX [f]
 | .list=>(one as).bind fun a=>(dL a).map fun f=>aH aFy [f]
 | .sum=>(one as).bind fun a=>(dL a).map fun f=>aH aLu [f]
 | .all=>(one as).bind fun a=>(dL a).map fun f=>aH aIy [f]
 | .any=>none
 | .abs=>none
 | .sorted=>none
 | .min=>none
 | .max=>none
 | .isin=>(two as).bind fun(a,b)=>(bP b).bind fun(t,_)=>(dE a).bind fun f=>(glo C t).bind fun g=>(isP g).map fun P=>rIs P f
 | _=>none
noncomputable def rY (dE:Expr->Option F) (C:Ctx) (tt:Bool) (x:Str) (as:List Expr):Option F:=match glo C x,as with
 | some (.py .range),[a]=>(dE a).map gX
 | some (.py .zip),[a,b]=>if tt then(dE a).bind fun f=>(dE b).map fun g=>aEi f g else none
 | _,_=>none
noncomputable def bsN (C:Ctx) (e:Expr):Bool:=match e with | .Name x _=>C.bs.contains x | _=>false
noncomputable def yV (x:Str):Str:=x++"{}"
noncomputable def aNe:CmpOp->Bool
 | .In=>true
 | .NotIn=>true
 | _=>false
noncomputable def inN (C:Ctx) (op:CmpOp) (e:Expr):Option Nat:=if aNe op&&bsN C e then(bP e).bind fun(x,_)=>loc C x else none
mutual
noncomputable def aT:Nat->Ctx->Expr->Option F
 | 0,_,_=>none
 | n+1,C,e=>match e with
  | .Name x _=>(match loc C x with
   | some i=>some (aD i)
   | none=>match glo C x with
    | some (.val d)=>some (rK d)
    | some (.fn k _ _)=>some (rK (.fn k))
    | _=>none)
  | .Constant c _ _=>(kD c).map rK
  | .BinOp a op b _=>(aT n C a).bind fun f=>(aT n C b).map fun g=>bD op f g
  | .UnaryOp op a _=>(aT n C a).bind fun f=>(match op with | .Not=>some (qB f) | .USub=>some (aLr f) | _=>none)
  | .BoolOp op es p=>(match es with
   | [a,b]=>(aT n C a).bind fun f=>(aT n C b).map fun g=>(match op with | .And=>mW f g | .Or=>rOr f g)
   | a::b::c::r=>(aT n C a).bind fun f=>(aT n C (.BoolOp op (b::c::r) p)).map fun g=>(match op with | .And=>mW f g | .Or=>rOr f g)
   | _=>none)
  | .Compare a ops cs q=>(match rkE (aT n C) C (.Compare a ops cs q) with
   | some f=>some f
   | none=>match ops with
   | [op]=>(one cs).bind fun b=>(if bsN C a then qC n C a else aT n C a).bind fun f=>(match inN C op b with
    | some i=>some (aIz op f i)
    | none=>(if bsN C b then qC n C b else aT n C b).map fun g=>dQ op f g)
   | [op,op']=>(two cs).bind fun(b,c)=>(aT n C a).bind fun f=>(aT n C b).bind fun g=>(aT n C c).map fun h=>iW op op' f g h
   | _=>none)
  | .IfExp c a b _=>(aT n C c).bind fun h=>(aT n C a).bind fun f=>(aT n C b).map fun g=>rIf h f g
  | .Tuple es _ _=>if es.length<=1000 then(cV (aT n C) es).map bS else none
  | .List es _=>if es.length<=1000 then(cV (aT n C) es).map cJ else none
  | .Subscript a b q=>(match rkE (aT n C) C (.Subscript a b q) with
   | some f=>some f
   | none=>(qC n C a).bind fun f=>(match yT b with
   | some (lo,hi)=>(match lo with
    | none=>some none
    | some l=>(aT n C l).map some).bind fun l=>(match hi with
    | none=>some none
    | some h=>(aT n C h).map some).map fun h=>aJx f l h
   | none=>(aT n C b).map fun g=>rIx f g))
  | .ListComp elt gens sc _=>(match gens with
   | [⟨tg,it,ifs,as⟩]=>if as=0 then(bH tg).bind fun(xs,k)=>(yW n C (k != 0) it).bind fun fi=>if gZ sc xs then
     (cV (fun x=>dD C x) (aN sc)).bind fun cs=>(match ifs with
     | []=>some none
     | [c]=>(aT n { C with sc:=sc,N:=xs++aN sc } c).map some
     | _=>none).bind fun c=>(aT n { C with sc:=sc,N:=xs++aN sc } elt).map fun e=>eW k cs fi c e
    else none else none
   | _=>none)
  | .Call f as kws cp=>(match rkE (aT n C) C (.Call f as kws cp) with
   | some f=>some f
   | none=>(if kws.isEmpty then(match f with
   | .Name x _=>(match loc C x with
    | some i=>if as.isEmpty then none else(cV (aT n C) as).map fun fs=>rW C.fns (aD i) fs
    | none=>(match glo C x with
     | some (.fn _ k f)=>if as.isEmpty then none else(cV (aT n C) as).bind fun fs=>if fs.length=k then some (aH f fs) else none
     | some (.py p)=>aBe (aT n C) (qC n C) C p as
     | _=>none))
   | .Subscript a b sp=>if as.isEmpty then none else(aT n C (.Subscript a b sp)).bind fun g=>(cV (aT n C) as).map fun fs=>rW C.fns g fs
   | .Attribute o m ap=>if as.isEmpty then(if m="bit_length"/\yS o=true/\(ap.endLine==cp.line)=true then(aT n C o).map fun f=>aH aF1 [f] else none) else(one as).bind fun a=>if yS o&&ap.endLine==cp.line then(qC n C o).bind fun f=>(aT n C a).bind fun g=>
     if m="count" then some (jI lG f g) else if m="index" then some (jI lI f g) else none else none
   | _=>none) else none))
  | _=>none
noncomputable def qC:Nat->Ctx->Expr->Option F
 | 0,_,_=>none
 | n+1,C,e=>match e with
  | .Name x p=>(match loc C x with
   | some i=>some (aW i)
   | none=>aT n C (.Name x p))
  | e=>aT n C e
noncomputable def yW:Nat->Ctx->Bool->Expr->Option F
 | 0,_,_,_=>none
 | n+1,C,tt,e=>match e with
  | .Call f as kws q=>(match f with
   | .Name x p=>(match loc C x,glo C x,kws with
    | none,some (.py .range),[]=>rY (aT n C) C tt x as
    | none,some (.py .zip),[]=>rY (aT n C) C tt x as
    | none,some (.py .enum),[]=>rY (aT n C) C tt x as
    | _,_,_=>aT n C (.Call (.Name x p) as kws q))
   | f=>aT n C (.Call f as kws q))
  | e=>qC n C e
end
noncomputable def gv:Nat->Expr->List Str
 | 0,_=>[]
 | n+1,e=>match e with
  | .Name x _=>[x]
  | .BinOp a _ b _=>gv n a++gv n b
  | .UnaryOp _ a _=>gv n a
  | .BoolOp _ as _=>as.flatMap (gv n)
  | .Compare a [_] [b] _=>(if aF4 a then [] else gv n a)++(if aF4 b then [] else gv n b)
  | .Compare a _ bs _=>gv n a++bs.flatMap (gv n)
  | .IfExp a b c _=>gv n a++gv n b++gv n c
  | .Tuple es _ _=>es.flatMap (gv n)
  | .List es _=>es.flatMap (gv n)
  | .Slice lo hi _ _=>(lo.map (gv n)).getD []++(hi.map (gv n)).getD []
  | .Subscript (.Name _ _) b _=>gv n b
  | .Subscript a b _=>gv n a++gv n b
  | .ListComp elt [⟨_, .Name _ _,ifs,_⟩] _ _=>ifs.flatMap (gv n)++gv n elt
  | .ListComp elt [⟨_,it,ifs,_⟩] _ _=>gv n it++ifs.flatMap (gv n)++gv n elt
  | .Call (.Name x _) as _ _=>if x="len"\/x="tuple"\/x="list"\/x="sum"\/x="sorted"\/x="all"\/x="any" then
    as.flatMap fun a=>match a with | .Name _ _=>[] | a=>gv n a else x::as.flatMap (gv n)
  | .Call (.Attribute (.Name _ _) _ _) as _ _=>as.flatMap (gv n)
  | .Call (.Attribute o _ _) as _ _=>gv n o++as.flatMap (gv n)
  | .Call f as _ _=>gv n f++as.flatMap (gv n)
  | _=>[]
noncomputable def fV (C:Ctx) (e:Expr):List Nat:=match C.bs with
 | []=>[]
 | _=>((gv 50 e).filter fun x=>C.bs.contains x).filterMap fun x=>loc C x
noncomputable def cQ (is:List Nat) (s:FS):FS:=match is with
 | []=>s
 | is=>aM6 is s
noncomputable def vR:Nat->List Stmt->List Str
 | 0,_=>[]
 | n+1,ss=>ss.flatMap fun s=>match s with
  | .Assign [.Subscript (.Name x _) _ _] _ _=>[x]
  | .Assign [.Name x _] (.Dict [] [] _) _=>[yV x]
  | .Assign [.Tuple [_, .Name x _] _ _] (.Tuple [_, .Dict [] [] _] _ _) _=>[yV x]
  | .AugAssign (.Subscript (.Name x _) _ _) _ _ _=>[x]
  | .Assign [.Tuple [.Subscript (.Name x _) _ _,_] _ _] _ _=>[x]
  | .Expr (.Call (.Attribute (.Name x _) m _) _ _ _) _=>if m="append"\/m="extend"\/m="remove" then [x] else []
  | .If _ a b _=>vR n a++vR n b
  | .For _ _ b _ _=>vR n b
  | .While _ b _ _=>vR n b
  | _=>[]
noncomputable def rZ:Expr->Bool
 | .Call _ _ _ _=>true
 | .Name _ _=>true
 | .Subscript _ _ _=>true
 | .ListComp _ _ _ _=>true
 | _=>false
noncomputable def aNf (C:Ctx) (x y:Str) (px py:Pos) (a b:Expr):Bool:=
 C.sc.names.lookup x==some .local&&C.sc.names.lookup y==some .local&&x != y&&px.line==py.line&& !([a,b].all (foldedForSure 8))&& !([a,b].all (constantsAlone 8))&& !C.bs.contains x&& !C.bs.contains y
noncomputable def aJ9 (C:Ctx) (x y:Str):Bool:=(C.sc.names.lookup x==some .cell||C.sc.names.lookup y==some .cell)&& !C.bs.contains x&& !C.bs.contains y
noncomputable def aNz:Operator->Bool
 | .Add=>true
 | _=>false
noncomputable def aL4:Operator->Bool
 | .Add=>true
 | .Sub=>true
 | _=>false
noncomputable def aL5 (C:Ctx) (tt:Bool) (it:Expr):Option F:=match it with
 | .Name x p=>aT 50 C (.Name x p)
 | it=>yW 50 C tt it
structure Par where
 x:Str
 px:Pos
 y:Str
 py:Pos
 a:Expr
 b:Expr
noncomputable def aN0 (es:List Expr) (e:Expr):Option Par:=(two es).bind fun(u,v)=>(bP u).bind fun(x,px)=>(bP v).bind fun(y,py)=>(aI1 e).bind fun(vs,_)=>(two vs).map fun(a,b)=>⟨x,px,y,py,a,b⟩
structure Par3 where
 x:Str
 px:Pos
 y:Str
 py:Pos
 z:Str
 pz:Pos
 a:Expr
 b:Expr
 c:Expr
noncomputable def aF8:List Expr->Option (Expr×Expr×Expr)
 | [a,b,c]=>some (a,b,c)
 | _=>none
noncomputable def aN1 (es:List Expr) (e:Expr):Option Par3:=(aF8 es).bind fun(u,v,w)=>(bP u).bind fun(x,px)=>(bP v).bind fun(y,py)=>(bP w).bind fun(z,pz)=>(aI1 e).bind fun(vs,_)=>(aF8 vs).map fun(a,b,c)=>⟨x,px,y,py,z,pz,a,b,c⟩
noncomputable def aL6 (C:Ctx) (q:Par3):Bool:=
 C.sc.names.lookup q.x==some .local&&C.sc.names.lookup q.y==some .local&&C.sc.names.lookup q.z==some .local&&q.x != q.y&&q.x != q.z&&q.y != q.z&&q.px.line==q.py.line&&q.px.line==q.pz.line&& !([q.a,q.b,q.c].all (foldedForSure 8))&& !([q.a,q.b,q.c].all (constantsAlone 8))&& !C.bs.contains q.x&& !C.bs.contains q.y&& !C.bs.contains q.z
noncomputable def aL7:Expr->Option (Str×Expr)
 | .Subscript o k _=>(bP o).map fun(x,_)=>(x,k)
 | _=>none
noncomputable def aN2 (es:List Expr) (e:Expr):Option (Str×Expr×Expr):=(two es).bind fun(u,v)=>(aL7 u).bind fun(x,k)=>(aL7 v).bind fun(y,l)=>(aI1 e).bind fun(vs,_)=>(two vs).bind fun _=>if x=y then some (x,k,l) else none
noncomputable def aI2:List Stmt->Option Stmt
 | [s]=>some s
 | _=>none
noncomputable def aNg:Stmt->Option (Str×Str)
 | .Assign ts e _=>(one ts).bind fun t=>(bP t).bind fun(x,_)=>(bP e).map fun(y,_)=>(x,y)
 | _=>none
noncomputable def aN3 (C:Ctx) (hs:List ExceptHandler):Option (Nat×Nat):=match hs with
 | [.ExceptHandler ty nm b _]=>ty.bind fun te=>nm.bind fun e=>(bP te).bind fun(cx,_)=>(aI2 b).bind fun s=>(aNg s).bind fun(x,e')=>(match loc C cx,glo C cx with
  | none,some (.exc c)=>if c=0/\e=e' then(loc C e).bind fun i=>(loc C x).bind fun j=>if C.sc.names.lookup e==some .local&&i != j&&C.bs.isEmpty then some (i,j) else none else none
  | _,_=>none)
 | _=>none
noncomputable def aKa (s:Stmt):Option (Str×Expr):=match s with
 | .Expr e _=>(match e with
  | .Call f as kws cp=>if kws.isEmpty then(match f with
   | .Attribute o m ap=>(bP o).bind fun(z,_)=>(one as).bind fun e=>if m="extend"/\(ap.endLine==cp.line)=true then some (z,e) else none
   | _=>none) else none
  | _=>none)
 | _=>none
noncomputable def r0 (C:Ctx) (tg it:Expr) (b:List Stmt):Option (Nat×Nat×Nat×Expr):=(bP tg).bind fun(x,_)=>(bP it).bind fun(y,_)=>(aI2 b).bind fun s=>(aKa s).bind fun(z,e)=>(loc C x).bind fun t=>(loc C y).bind fun i=>(loc C z).bind fun j=>
 if C.bs.contains y&&C.bs.contains z&& !C.bs.contains x&&t != i&&i != j&&(fV C e).isEmpty then some (t,i,j,e) else none
mutual
noncomputable def yX:Nat->Bool->Ctx->Stmt->Option FS
 | 0,_,_,_=>none
 | n+1,t,C,s=>match s with
  | .Pass _=>some aX
  | .Break _=>some aL1
  | .Continue _=>some aF3
  | .Return v _=>(match v with
   | none=>some aF2
   | some e=>(match bP e with
    | some (x,_)=>(match loc C x with
     | some i=>if C.bs.contains x then some (cU (aA6 i)) else some (cU (aD i))
     | none=>(aT 50 C e).map cU)
    | none=>(aT 50 C e).map fun f=>cQ (fV C e) (cU f)))
  | .Assign ts e _=>(one ts).bind fun tg=>(match tg with
   | .Name x _=>(loc C x).bind fun i=>(aT 50 C e).map fun f=>cQ (fV C e) (if C.bs.contains x then vP i f else mH i f)
   | .Tuple es a b=>(if rZ e then some () else none).bind fun _=>(bH (.Tuple es a b)).bind fun(xs,_)=>(cV (fun x=>loc C x) xs).bind fun is=>if xs.all (fun x=> !C.bs.contains x) then
     (aT 50 C e).map fun f=>cQ (fV C e) (aA9 is f) else none
   | .Subscript o k _=>(bP o).bind fun(x,_)=>(loc C x).bind fun i=>if C.bs.contains x then(aT 50 C e).bind fun f=>(aT 50 C k).map fun g=>cQ (fV C e++fV C k) (aJ4 i g f) else none
   | _=>none)
  | .Expr e _=>(match e with
   | .Call f as kws cp=>if kws.isEmpty then(match f with
    | .Attribute o m ap=>(bP o).bind fun(x,_)=>(one as).bind fun e=>(loc C x).bind fun i=>if C.bs.contains x&&ap.endLine==cp.line then(aT 50 C e).bind fun f=>
      if m="append" then some (cQ (fV C e) (iZ i f)) else if m="extend" then some (cQ (fV C e) (iO i f)) else none else none
    | .Name x p=>(aT 50 C (.Call (.Name x p) as [] cp)).map fun f=>cQ (fV C (.Call (.Name x p) as [] cp)) (lJ f)
    | _=>none) else none
   | _=>none)
  | .If c a b _=>(aT 50 C c).bind fun f=>(fG n t C a).bind fun g=>(fG n t C b).map fun h=>cQ (fV C c) (sIf f g h)
  | .For tg it b els _=>if t|| !els.isEmpty then none else(match r0 C tg it b with
   | some (ti,i,j,e)=>(aT 50 C e).map fun f=>aBa ti i (iO j f)
   | none=>(bH tg).bind fun(xs,k)=>(aL5 C (k != 0) it).bind fun f=>(cV (fun x=>loc C x) xs).bind fun is=>if xs.all (fun x=> !C.bs.contains x) then
    (fG n t C b).map fun g=>cQ (fV C it) (wF is (k==0) f g) else none)
  | .While c b els _=>if t|| !els.isEmpty then none else(aT 50 C c).bind fun f=>(fG n t C b).map fun g=>cQ (fV C c) (yR f g)
  | .Raise x c _=>if t||c.isSome then none else x.bind fun e=>(match e with
   | .Call f as kws _=>if kws.isEmpty then(bP f).bind fun(x,_)=>(one as).bind fun a=>if aBb a then(match loc C x,glo C x with
    | none,some (.exc c)=>some (iY c)
    | _,_=>none) else none else none
   | _=>none)
  | _=>none
noncomputable def fG:Nat->Bool->Ctx->List Stmt->Option FS
 | 0,_,_,_=>none
 | n+1,t,C,ss=>match ss with
  | []=>some aX
  | [a]=>some ((yX n t C a).getD aI0)
  | a::r=>(fG n t C r).map fun g=>bE ((yX n t C a).getD aI0) g
end
noncomputable def cR (a:Arguments):Option (List Str):=if a.posonlyargs.isEmpty&&a.vararg.isNone&&a.kwonlyargs.isEmpty&&a.kwarg.isNone&&a.defaults.isEmpty then some (a.args.map (·.arg)) else none
noncomputable def aB (sc:Scope):List Str:=(sc.names.filter fun p=>p.2== .local||p.2== .cell).map (·.1)
noncomputable def bI (N P:List Str) (sc:Scope):Bool:=
 sc.kind== .function&& !sc.isCoroutine&& !sc.isGenerator&&decide N.Nodup&&decide (N.take P.length=P)&&
  P.all (fun x=>sc.names.lookup x==some .local||sc.names.lookup x==some .cell)&&sc.names.all (fun p=>p.2 != .free)&&N.all (fun x=>x != "__debug__"&&x != "__classdict__")
noncomputable def aBf (tab:List (Str×Gl)) (fns:List (Nat×Fn)) (s:Stmt):Option (Nat×Fn):=match s with
 | .FunctionDef _ as b _ _ _ sc _ _ _=>(cR as).bind fun P=>if bI (aB sc) P sc then
   (fG 100 false ⟨tab,fns,sc,aB sc,vR 50 b⟩ b).map fun g=>(P.length,fnOf (aB sc).length g) else none
 | _=>none
noncomputable def aEl (g:Gl):D->Option Bool:=(isP g).getD fun _=>none
noncomputable def aF9:D->Option Bool:=aEl (.py .int)
noncomputable def aBg:D->Option Bool:=aEl (.py .bool)
noncomputable def oH:D->Option Bool:=aEl (.py .tuple)
noncomputable def aGa:D->Option Bool:=aEl (.py .str)
noncomputable def iR:Nat->D->Option Bool
 | 100=>aEl .verr
 | c=>aEl (.exc c)
mutual
noncomputable def b9:D->PyData
 | .non=> .none
 | .bl b=> .bool b
 | .int i=> .int i
 | .str x=> .str x
 | .tup xs=> .tuple (cH xs)
 | .lst xs=> .list (cH xs)
 | .exc _=> .none
 | .fn _=> .none
noncomputable def cH:List D->List PyData
 | []=>[]
 | x::xs=>b9 x::cH xs
end
mutual
theorem fS: ∀ {d:D},plain d=true->(b9 d).canLay0=true
 | .non,_=>by simp [b9,PyData.canLay0]
 | .bl _,_=>by simp [b9,PyData.canLay0]
 | .int _,_=>by simp [b9,PyData.canLay0]
 | .str x,h=>by
  unfold plain at h
  simp only [b9,PyData.canLay0]
  exact h
 | .tup xs,h=>by
  simp only [b9,PyData.canLay0]
  exact mZ (by simpa [plain] using h)
 | .lst xs,h=>by
  simp only [b9,PyData.canLay0]
  exact mZ (by simpa [plain] using h)
 | .exc _,h=>by simp [plain] at h
 | .fn _,h=>by simp [plain] at h
theorem mZ: ∀ {ds:List D},aY ds=true->PyData.canLayAll0 (cH ds)=true
 | [],_=>by simp [cH,PyData.canLayAll0]
 | d::ds,h=>by
  have h':plain d=true/\aY ds=true:=by simpa [aY] using h
  simp only [cH,PyData.canLayAll0,fS h'.1,mZ h'.2,Bool.and_self]
end
mutual
theorem g0: ∀ (d:D),(b9 d).depth=dep d
 | .non=>by simp [b9,PyData.depth,dep]
 | .bl _=>by simp [b9,PyData.depth,dep]
 | .int _=>by simp [b9,PyData.depth,dep]
 | .str x=>by simp [b9,PyData.depth,dep]
 | .tup xs=>by simp [b9,PyData.depth,dep,m7 xs]
 | .lst xs=>by simp [b9,PyData.depth,dep,m7 xs]
 | .exc _=>by simp [b9,PyData.depth,dep]
 | .fn _=>by simp [b9,PyData.depth,dep]
theorem m7: ∀ (ds:List D),PyData.depthAll (cH ds)=wB ds
 | []=>by simp [cH,PyData.depthAll,wB]
 | d::ds=>by simp [cH,PyData.depthAll,wB,g0 d,m7 ds]
end
theorem yY (b:Bool):b2i b=if b then 1 else 0:=rfl
mutual
theorem g6: ∀ (x y:D),plain x=true->plain y=true->PyData.eqv (b9 x) (b9 y)=deq x y
 | .non,y,_,h=>by cases y<;>simp [plain] at h<;>simp [b9,PyData.eqv,deq]
 | .bl a,y,_,h=>by cases y<;>simp [plain] at h<;>simp [b9,PyData.eqv,deq,yY]
 | .int a,y,_,h=>by cases y<;>simp [plain] at h<;>simp [b9,PyData.eqv,deq,yY]
 | .str a,y,_,h=>by cases y<;>simp [plain] at h<;>simp [b9,PyData.eqv,deq]
 | .tup xs,y,g,h=>by
  cases y with
  | tup ys=>simpa [b9,PyData.eqv,deq] using jK xs ys (by simpa [plain] using g) (by simpa [plain] using h)
  | _=>simp [plain] at h<;>simp [b9,PyData.eqv,deq]
 | .lst xs,y,g,h=>by
  cases y with
  | lst ys=>simpa [b9,PyData.eqv,deq] using jK xs ys (by simpa [plain] using g) (by simpa [plain] using h)
  | _=>simp [plain] at h<;>simp [b9,PyData.eqv,deq]
 | .exc _,_,g,_=>by simp [plain] at g
 | .fn _,_,g,_=>by simp [plain] at g
theorem jK: ∀ (xs ys:List D),aY xs=true->aY ys=true->PyData.eqvAll (cH xs) (cH ys)=p9 xs ys
 | [],[],_,_=>by simp [cH,PyData.eqvAll,p9]
 | [],_::_,_,_=>by simp [cH,PyData.eqvAll,p9]
 | _::_,[],_,_=>by simp [cH,PyData.eqvAll,p9]
 | x::xs,y::ys,g,h=>by
  have g':plain x=true/\aY xs=true:=by simpa [aY] using g
  have h':plain y=true/\aY ys=true:=by simpa [aY] using h
  simp only [cH,PyData.eqvAll,p9,g6 x y g'.1 h'.1,jK xs ys g'.2 h'.2]
end
abbrev St:=L2.St
structure Ad where
 cls:Nat->Addr
 fnA:Nat->Addr
 nb:Nat
def jL (h:Heap) (x C:Addr):Prop:= ∃ o vs,h.get? x=some o/\o.cls= .ref C/\o.data= .fields vs
noncomputable def yZ (C a:Addr):HO:= .ext fun h=>jL h a C
section
variable (K:PySem.W.Frag) (ad:Ad)
mutual
noncomputable def Rep (G:Hp):D->V->Prop
 | .non,v=>v= .non
 | .bl b,v=>v= .bl b
 | .int i,v=>v= .int i
 | .str x,v=>v= .str x
 | .tup ds,v=> ∃ a vs,v= .ref a/\SqT K G a vs/\aE G ds vs
 | .lst ds,v=> ∃ a vs,v= .ref a/\SqL K G a vs/\aE G ds vs
 | .exc c,v=> ∃ a,v= .ref a/\G a=some (yZ (ad.cls c) a)
 | .fn k,v=>v= .ref (ad.fnA k)
noncomputable def aE (G:Hp):List D->List V->Prop
 | [],vs=>vs=[]
 | d::ds,vs=> ∃ v r,vs=v::r/\Rep G d v/\aE G ds r
end
end
section
variable {K:PySem.W.Frag} {ad:Ad} {G G' H H':Hp}
theorem _root_.L2.Same.seqT {K:PySem.W.Frag} {H H':Hp} {a:Addr} {xs:List V} (e:Same H H') (h:SqT K H a xs):SqT K H' a xs:=by
 rcases h with (h | ⟨o,h⟩) | h
 ·exact .inl (.inl (e _ _ h))
 ·exact .inl (.inr ⟨o,e _ _ h⟩)
 ·exact .inr h
mutual
theorem Rep.mono (e:Same G G'): ∀ {d:D} {v:V},Rep K ad G d v->Rep K ad G' d v
 | .non,_,h=>h
 | .bl _,_,h=>h
 | .int _,_,h=>h
 | .str _,_,h=>h
 | .tup ds,v,h=>by
  unfold Rep at h ⊢
  obtain⟨a,vs,h1,h2,h3⟩:=h
  exact⟨a,vs,h1,e.seqT h2,aE.mono e h3⟩
 | .lst ds,v,h=>by
  unfold Rep at h ⊢
  obtain⟨a,vs,h1,h2,h3⟩:=h
  exact⟨a,vs,h1,e.seq h2,aE.mono e h3⟩
 | .exc _,_,h=>by
  unfold Rep at h ⊢
  obtain⟨a,h1,h2⟩:=h
  exact⟨a,h1,e _ _ h2⟩
 | .fn _,_,h=>h
theorem aE.mono (e:Same G G'): ∀ {ds:List D} {vs:List V},aE K ad G ds vs->aE K ad G' ds vs
 | [],_,h=>h
 | d::ds,vs,h=>by
  unfold aE at h ⊢
  obtain⟨v,r,h1,h2,h3⟩:=h
  exact⟨v,r,h1,Rep.mono e h2,aE.mono e h3⟩
end
theorem aE.length: ∀ {ds:List D} {vs:List V},aE K ad G ds vs->vs.length=ds.length
 | [],_,h=>by
  unfold aE at h
  subst h
  rfl
 | d::ds,vs,h=>by
  unfold aE at h
  obtain⟨v,r,rfl,_,h3⟩:=h
  simp [aE.length h3]
theorem aE.nil:aE K ad G [] []:=by unfold aE;rfl
theorem aE.cons {d:D} {v:V} {ds:List D} {vs:List V} (h:Rep K ad G d v) (t:aE K ad G ds vs):aE K ad G (d::ds) (v::vs):=by
 unfold aE
 exact⟨v,vs,rfl,h,t⟩
theorem aE.get: ∀ {ds:List D} {vs:List V} {i:Nat} {d:D},aE K ad G ds vs->ds[i]? =some d-> ∃ v,vs[i]? =some v/\Rep K ad G d v
 | [],_,_,_,_,e=>by simp at e
 | d::ds,vs,i,d',h,e=>by
  unfold aE at h
  obtain⟨v,r,rfl,h2,h3⟩:=h
  cases i with
  | zero=>
   simp at e
   subst e
   exact⟨v,rfl,h2⟩
  | succ i=>
   obtain⟨w,a,b⟩:=aE.get (i:=i) (d:=d') h3 (by simpa using e)
   exact⟨w,by simpa using a,b⟩
theorem aE.append: ∀ {ds es:List D} {vs ws:List V},aE K ad G ds vs->aE K ad G es ws->aE K ad G (ds++es) (vs++ws)
 | [],_,_,_,h,t=>by
  unfold aE at h
  subst h
  exact t
 | d::ds,es,vs,ws,h,t=>by
  unfold aE at h
  obtain⟨v,r,rfl,h2,h3⟩:=h
  exact aE.cons h2 (aE.append h3 t)
theorem aE.drop: ∀ (n:Nat) {ds:List D} {vs:List V},aE K ad G ds vs->aE K ad G (ds.drop n) (vs.drop n)
 | 0,_,_,h=>h
 | n+1,[],_,h=>by
  unfold aE at h
  subst h
  exact aE.nil
 | n+1,d::ds,vs,h=>by
  unfold aE at h
  obtain⟨v,r,rfl,h2,h3⟩:=h
  exact aE.drop n h3
theorem aE.take: ∀ (n:Nat) {ds:List D} {vs:List V},aE K ad G ds vs->aE K ad G (ds.take n) (vs.take n)
 | 0,_,_,_=>aE.nil
 | n+1,[],_,h=>by
  unfold aE at h
  subst h
  exact aE.nil
 | n+1,d::ds,vs,h=>by
  unfold aE at h
  obtain⟨v,r,rfl,h2,h3⟩:=h
  exact aE.cons h2 (aE.take n h3)
theorem aE.set {d:D} {v:V} (q:Rep K ad G d v): ∀ (n:Nat) {ds:List D} {vs:List V},aE K ad G ds vs->aE K ad G (ds.set n d) (vs.set n v)
 | _,[],_,h=>by
  unfold aE at h
  subst h
  exact aE.nil
 | 0,_::ds,vs,h=>by
  unfold aE at h
  obtain⟨w,r,rfl,h2,h3⟩:=h
  exact aE.cons q h3
 | n+1,e::ds,vs,h=>by
  unfold aE at h
  obtain⟨w,r,rfl,h2,h3⟩:=h
  exact aE.cons h2 (aE.set q n h3)
theorem aE.rep {ds:List D} {vs:List V} (h:aE K ad G ds vs): ∀ k:Nat,aE K ad G (ao k ds).flatten (ao k vs).flatten
 | 0=>aE.nil
 | k+1=>by
  simp only [List.replicate_succ,List.flatten_cons]
  exact aE.append h (aE.rep h k)
theorem aE.map_int: ∀ {ns:List Int},aE K ad G (ns.map D.int) (ns.map V.int)
 | []=>aE.nil
 | _::_=>aE.cons (by unfold Rep;rfl) aE.map_int
structure Step (G H G' H':Hp):Prop where
 sg:Same G G'
 gh:Same G' H'
 sh:Same H H'
 nw: ∀ b,G b=none->G' b≠none->H b=none
theorem lL (e:Same H H') {b:Addr} (h:H' b=none):H b=none:=e.free h
theorem Step.refl (h:Same G H):Step G H G H:=⟨Same.refl _,h,Same.refl _,fun b h1 h2=>absurd h1 h2⟩
theorem Step.trans {G1 H1 G2 H2:Hp} (a:Step G H G1 H1) (b:Step G1 H1 G2 H2):Step G H G2 H2:=
 ⟨a.sg.trans b.sg,b.gh,a.sh.trans b.sh,fun x h1 h2=>by
  cases q:G1 x with
  | none=>exact a.sh.free (b.nw x q h2)
  | some o=>exact a.nw x h1 (by rw [q];exact fun z=>nomatch z)⟩
theorem Same.upd_new {p:Addr} {o:HO} (h:H p=none):Same H (upd H p o):=fun b u e=>by rw [aA (aK e h)];exact e
theorem Step.new {p:Addr} {o:HO} (h:Same G H) (n:H p=none):Step G H (upd G p o) (upd H p o):=by
 have gn:G p=none:=h.free n
 refine⟨Same.upd_new gn,fun b u e=> ?_,Same.upd_new n,fun b h1 h2=> ?_⟩
 ·by_cases q:b=p
  ·subst q
   rw [aC] at e ⊢
   exact e
  ·rw [aA q] at e ⊢
   exact h b u e
 ·by_cases q:b=p
  ·subst q
   exact n
  ·rw [aA q] at h2
   exact absurd h1 h2
theorem Step.own {p:Addr} {o:HO} (h:Same G H) (n:H p=none):Step G H G (upd H p o):=
 ⟨Same.refl _,h.trans (Same.upd_new n),Same.upd_new n,fun b h1 h2=>absurd h1 h2⟩
theorem Step.shareO {p:Addr} {o:HO} (s:Step G H G' H') (n:H p=none) (m:G' p=none) (e:H' p=some o):Step G H (upd G' p o) H':=by
 refine⟨s.sg.trans (Same.upd_new m),fun b u q=> ?_,s.sh,fun b h1 h2=> ?_⟩
 ·by_cases z:b=p
  ·subst z
   rw [aC] at q
   rw [e]
   exact q
  ·rw [aA z] at q
   exact s.gh b u q
 ·by_cases z:b=p
  ·subst z
   exact n
  ·rw [aA z] at h2
   exact s.nw b h1 h2
theorem Step.share {p:Addr} {vs:List V} (s:Step G H G' H') (n:H p=none) (m:G' p=none) (e:H' p=some (.lst vs)):Step G H (upd G' p (.lst vs)) H':=s.shareO n m e
mutual
noncomputable def hD:D->Int
 | .non=>0xFCA86420
 | .int i=>hashInt i
 | .tup xs=>reduceHash (Builtin.Tuple.tupleHashOf (hDs xs))
 | _=>0
noncomputable def hDs:List D->List Int
 | []=>[]
 | x::xs=>hD x::hDs xs
end
def aNh (h:Heap) (a:Addr) (es:Nat×List (Int×Addr×V)):Prop:=(a==sysModules)=false/\es.2.length<=200000/\ ∃ o ar xs,h.get? a=some o/\o.ExactDict/\o.data= .dict ar es.1/\ar.toList=xs.map (fun x:Int×Addr×Value=>(⟨x.1, .ref x.2.1,x.2.2⟩:DictEntry))/\
 Paired (fun(p:Int×Addr×V) (q:Int×Addr×Value)=>p.1=q.1/\p.2.1=q.2.1/\aP p.2.2 q.2.2) es.2 xs
noncomputable def dcO (a:Addr) (es:Nat×List (Int×Addr×V)):HO:= .ext fun h=>aNh h a es
noncomputable def DL (K:PySem.W.Frag) (ad:Ad) (G:Hp):List (D×D)->List (Int×Addr×V)->Prop:=Paired fun p q=>q.1=hD p.1/\Rep K ad G p.1 (.ref q.2.1)/\Rep K ad G p.2 q.2.2
def DR (K:PySem.W.Frag) (ad:Ad) (G:Hp) (kvs:List (D×D)) (es:Nat×List (Int×Addr×V)):Prop:=DL K ad G kvs es.2
def KOk (kvs:List (D×D)):Prop:=(∀ p∈kvs,aJ3 p.1=true)/\kvs.Pairwise fun p q=>deq p.1 q.1=false
theorem DR.mono {K:PySem.W.Frag} {ad:Ad} {G G':Hp} {kvs:List (D×D)} {es:Nat×List (Int×Addr×V)} (h:DR K ad G kvs es) (e:Same G G'):DR K ad G' kvs es:=Paired.mapP h fun _ _ z=>⟨z.1,z.2.1.mono e,z.2.2.mono e⟩
noncomputable def HR (K:PySem.W.Frag) (ad:Ad) (G:Hp):List (Str×D)->List (Key×V)->Prop:=Paired fun p q=>q.1=Sum.inr p.1/\Rep K ad G p.2 q.2
theorem HR.mono {K:PySem.W.Frag} {ad:Ad} {G G':Hp} {ps:List (Str×D)} {qs:List (Key×V)} (h:HR K ad G ps qs) (e:Same G G'):HR K ad G' ps qs:=Paired.mapP h fun _ _ z=>⟨z.1,z.2.mono e⟩
structure RackIn (K:PySem.W.Frag) (ad:Ad) (C:Addr) (G H:Hp) (p:Addr) (r:Rk) (dx d l1 l2:Addr):Prop where
 ins:H p=some (.ins C dx [("held", .ref d),("done", .ref l1),("undone", .ref l2)])
 own:H dx=some (.own p)
 held: ∃ kvs,H d=some (.dK kvs)/\HR K ad G r.held kvs
 done: ∃ vs,H l1=some (.lst vs)/\aE K ad G r.done vs
 undone: ∃ vs,H l2=some (.lst vs)/\aE K ad G r.undone vs
 ne:l1≠l2
 gp:G p=none
 gx:G dx=none
 gd:G d=none
 g1:G l1=none
 g2:G l2=none
theorem Step.gnone {G H G' H':Hp} (st:Step G H G' H') {b:Addr} {o:HO} (g:G b=none) (h:H b=some o):G' b=none:=by
 cases q:G' b with
 | none=>rfl
 | some o'=>
  have:=st.nw b g (by rw [q];exact fun z=>nomatch z)
  rw [h] at this
  cases this
theorem RackIn.step {K:PySem.W.Frag} {ad:Ad} {C:Addr} {G H G' H':Hp} {p:Addr} {r:Rk} {dx d l1 l2:Addr} (h:RackIn K ad C G H p r dx d l1 l2) (st:Step G H G' H'):RackIn K ad C G' H' p r dx d l1 l2:=by
 obtain⟨kvs,a1,a2⟩:=h.held
 obtain⟨v1,b1,b2⟩:=h.done
 obtain⟨v2,c1,c2⟩:=h.undone
 exact⟨st.sh _ _ h.ins,st.sh _ _ h.own,⟨kvs,st.sh _ _ a1,a2.mono st.sg⟩,⟨v1,st.sh _ _ b1,b2.mono st.sg⟩,⟨v2,st.sh _ _ c1,c2.mono st.sg⟩,h.ne,st.gnone h.gp h.ins,st.gnone h.gx h.own,st.gnone h.gd a1,st.gnone h.g1 b1,st.gnone h.g2 c1⟩
theorem RackIn.up {K:PySem.W.Frag} {ad:Ad} {C:Addr} {G H H':Hp} {p:Addr} {r:Rk} {dx d l1 l2:Addr} (h:RackIn K ad C G H p r dx d l1 l2) (s:Same H H'):RackIn K ad C G H' p r dx d l1 l2:=by
 obtain⟨kvs,a1,a2⟩:=h.held
 obtain⟨v1,b1,b2⟩:=h.done
 obtain⟨v2,c1,c2⟩:=h.undone
 exact⟨s _ _ h.ins,s _ _ h.own,⟨kvs,s _ _ a1,a2⟩,⟨v1,s _ _ b1,b2⟩,⟨v2,s _ _ c1,c2⟩,h.ne,h.gp,h.gx,h.gd,h.g1,h.g2⟩
noncomputable def SLi (K:PySem.W.Frag) (ad:Ad) (G H:Hp):Slot->Option V->Prop
 | .no,_=>True
 | .sh d,ov=> ∃ v,ov=some v/\Rep K ad G d v
 | .ow xs,ov=> ∃ a vs,ov=some (.ref a)/\G a=none/\H a=some (.lst vs)/\aE K ad G xs vs
 | .dc kvs,ov=> ∃ a es,ov=some (.ref a)/\G a=none/\H a=some (dcO a es)/\DR K ad G kvs es/\KOk kvs
 | .sd kvs,ov=> ∃ a es,ov=some (.ref a)/\G a=some (dcO a es)/\H a=some (dcO a es)/\DR K ad G kvs es/\KOk kvs
 | .rk C r,ov=> ∃ p dx d l1 l2,ov=some (.ref p)/\RackIn K ad C G H p r dx d l1 l2
structure SL (K:PySem.W.Frag) (ad:Ad) (G H:Hp) (ρ:Rho) (σ:St):Prop where
 len:ρ.length=σ.length
 at_: ∀ (i:Nat) (s:Slot),ρ[i]? =some s-> ∃ ov,σ[i]? =some ov/\SLi K ad G H s ov
theorem SLi.step (st:Step G H G' H'): ∀ {s:Slot} {ov:Option V},SLi K ad G H s ov->SLi K ad G' H' s ov
 | .no,_,_=>trivial
 | .sh d,_,⟨v,h1,h2⟩=>⟨v,h1,h2.mono st.sg⟩
 | .ow xs,_,⟨a,vs,h1,h2,h3,h4⟩=>by
  refine⟨a,vs,h1, ?_,st.sh _ _ h3,h4.mono st.sg⟩
  cases q:G' a with
  | none=>rfl
  | some o=>
   have:=st.nw a h2 (by rw [q];exact fun z=>nomatch z)
   rw [h3] at this
   cases this
 | .dc kvs,_,⟨a,es,h1,h2,h3,h4,h5⟩=>by
  refine⟨a,es,h1, ?_,st.sh _ _ h3,h4.mono st.sg,h5⟩
  cases q:G' a with
  | none=>rfl
  | some o=>
   have:=st.nw a h2 (by rw [q];exact fun z=>nomatch z)
   rw [h3] at this
   cases this
 | .sd kvs,_,⟨a,es,h1,h2,h3,h4,h5⟩=>⟨a,es,h1,st.sg _ _ h2,st.sh _ _ h3,h4.mono st.sg,h5⟩
 | .rk C r,_,⟨p,dx,d,l1,l2,h1,h2⟩=>⟨p,dx,d,l1,l2,h1,h2.step st⟩
theorem SL.step {ρ:Rho} {σ:St} (h:SL K ad G H ρ σ) (st:Step G H G' H'):SL K ad G' H' ρ σ:=
 ⟨h.len,fun i s e=>let ⟨ov,h1,h2⟩:=h.at_ i s e;⟨ov,h1,h2.step st⟩⟩
theorem SL.sh {ρ:Rho} {σ:St} {i:Nat} {d:D} (h:SL K ad G H ρ σ) (e:ρ[i]? =some (.sh d)): ∃ v,σ[i]? =some (some v)/\Rep K ad G d v:=by
 obtain⟨ov,h1,v,rfl,h3⟩:=h.at_ i _ e
 exact⟨v,h1,h3⟩
theorem SL.ow {ρ:Rho} {σ:St} {i:Nat} {xs:List D} (h:SL K ad G H ρ σ) (e:ρ[i]? =some (.ow xs)): ∃ a vs,σ[i]? =some (some (.ref a))/\G a=none/\H a=some (.lst vs)/\aE K ad G xs vs:=by
 obtain⟨ov,h1,a,vs,rfl,h3⟩:=h.at_ i _ e
 exact⟨a,vs,h1,h3⟩
theorem SL.dc {ρ:Rho} {σ:St} {i:Nat} {kvs:List (D×D)} (h:SL K ad G H ρ σ) (e:ρ[i]? =some (.dc kvs)): ∃ a es,σ[i]? =some (some (.ref a))/\G a=none/\H a=some (dcO a es)/\DR K ad G kvs es/\KOk kvs:=by
 obtain⟨ov,h1,a,es,rfl,h3⟩:=h.at_ i _ e
 exact⟨a,es,h1,h3⟩
theorem SL.rk {ρ:Rho} {σ:St} {i C:Nat} {r:Rk} (h:SL K ad G H ρ σ) (e:ρ[i]? =some (.rk C r)): ∃ p dx d l1 l2,σ[i]? =some (some (.ref p))/\RackIn K ad C G H p r dx d l1 l2:=by
 obtain⟨ov,h1,p,dx,d,l1,l2,rfl,h3⟩:=h.at_ i _ e
 exact⟨p,dx,d,l1,l2,h1,h3⟩
def RK (K:PySem.W.Frag) (ad:Ad) (G H:Hp) (r:R) (Q:VK) (E:Nat->Hp->Prop):Prop:=match r with
 | .ok d=> ∀ v G' H',Step G H G' H'->Rep K ad G' d v->Q v H'
 | .ow xs=> ∀ p vs G' H',Step G H G' H'->H p=none->G' p=none->H' p=some (.lst vs)->aE K ad G' xs vs->Q (.ref p) H'
 | .ex c=> ∀ G' H',Step G H G' H'->E c H'
 | .bad=>False
theorem RK.step {r:R} {Q:VK} {E:Nat->Hp->Prop} (h:RK K ad G H r Q E) (st:Step G H G' H'):RK K ad G' H' r Q E:=by
 cases r with
 | ok d=>exact fun v G2 H2 s2 q=>h v G2 H2 (st.trans s2) q
 | ow xs=>exact fun p vs G2 H2 s2 n m e q=>h p vs G2 H2 (st.trans s2) (st.sh.free n) m e q
 | ex c=>exact fun G2 H2 s2=>h G2 H2 (st.trans s2)
 | bad=>exact h
theorem RK.ok_now {d:D} {v:V} {Q:VK} {E:Nat->Hp->Prop} (h:RK K ad G H (.ok d) Q E) (e:Same G H) (q:Rep K ad G d v):Q v H:=h v G H (Step.refl e) q
theorem RK.ow_new {xs:List D} {vs:List V} {p:Addr} {Q:VK} {E:Nat->Hp->Prop} (h:RK K ad G H (.ow xs) Q E) (e:Same G H) (q:aE K ad G xs vs) (n:H p=none):Q (.ref p) (upd H p (.lst vs)):=
 h p vs G (upd H p (.lst vs)) (Step.own e n) n (e.free n) aC q
theorem RK.tup_new {xs:List D} {vs:List V} {p:Addr} {Q:VK} {E:Nat->Hp->Prop} (h:RK K ad G H (.ok (.tup xs)) Q E) (e:Same G H) (q:aE K ad G xs vs) (n:H p=none):Q (.ref p) (upd H p (.tup vs)):=by
 refine h (.ref p) (upd G p (.tup vs)) (upd H p (.tup vs)) (Step.new e n) ?_
 unfold Rep
 exact⟨p,vs,rfl,SqT.of aC,q.mono (Same.upd_new (e.free n))⟩
end
noncomputable def CXe (P:Program) (w:World):CXT:=fun outer H s E e s'=>
 ∃ (ea:Addr) (cls a0:Value) (H':Hp) (B:Heap),e= .ref ea/\s'.os=s.os/\AllBare s'.gens/\Heap.FlyingW B outer ea cls a0 s'.heap/\Un (frs outer) [] H H' s.heap s'.heap/\
  HOk P w H' s'.heap/\H' ea=none/\(∀ b o,s.heap.get? b=some o->b∉frs outer-> ∃ o',B.get? b=some o')/\(∀ b o,H' b=some o-> ∃ o',B.get? b=some o')/\E cls none H'
noncomputable def xk (ad:Ad) (E:Nat->Hp->Prop):XK:=fun cls _ H'=> ∃ c,cls= .ref (ad.cls c)/\E c H'
def XP (X:Cx) (ad:Ad) (σ:St) (E:Nat->Hp->Prop):Prop:=
 ∀ (pins:List (Addr×Obj)) (H:Hp) (s:Shared) (e:Value) (s':Shared),Inv X pins σ H s->CXe X.prog X.w X.stack H s (xk ad E) e s'->X.xe e s'
noncomputable def tE (X:Cx) (ad:Ad) (f:F):TE:=fun σ H Q=> ∃ G ρ E,Same G H/\SL X.K ad G H ρ σ/\XP X ad σ E/\RK X.K ad G H (f ρ) Q E
abbrev ME (X:Cx) (ad:Ad) (e:Expr) (f:F):Prop:=PE X e (tE X ad f)
def g9 (r:R):Prop:=(∃ b,r= .ok (.bl b))\/ ∃ c,r= .ex c
noncomputable def tT (X:Cx) (ad:Ad) (f:F):TT:=fun σ H Q=> ∃ G ρ E,Same G H/\SL X.K ad G H ρ σ/\XP X ad σ E/\g9 (f ρ)/\RK X.K ad G H (f ρ) (fun v H'=> ∃ b,v= .bl b/\Q b H') E
abbrev MT (X:Cx) (ad:Ad) (e:Expr) (f:F):Prop:=PT X e (tT X ad f)
abbrev MW (X:Cx) (ad:Ad) (e:Expr) (f:F):Prop:=PW X e (tT X ad f)
def AK (K:PySem.W.Frag) (ad:Ad) (G H:Hp) (r:RA) (Q:List V->Hp->Prop) (E:Nat->Hp->Prop):Prop:=match r with
 | .ok ds=> ∀ vs G' H',Step G H G' H'->aE K ad G' ds vs->Q vs H'
 | .ex c=> ∀ G' H',Step G H G' H'->E c H'
 | .bad=>False
noncomputable def tA (X:Cx) (ad:Ad) (fs:List F):TA:=fun σ H Q=> ∃ G ρ E,Same G H/\SL X.K ad G H ρ σ/\XP X ad σ E/\AK X.K ad G H (args fs ρ) Q E
abbrev MA (X:Cx) (ad:Ad) (es:List Expr) (fs:List F):Prop:=PA X es (tA X ad fs)
section
variable {X:Cx} {ad:Ad} {pins:List (Addr×Obj)} {s:Shared} {σ:St} {H G:Hp} {ρ:Rho} {Q:VK} {E:Nat->Hp->Prop} {pos:Pos} {a b c:Expr} {f g h:F}
theorem bB {xs:List D} {p:Addr} {vs:List V} {G1 H1:Hp} (st:Step G H G1 H1) (n:H p=none) (m:G1 p=none) (e:H1 p=some (.lst vs)) (q:aE X.K ad G1 xs vs):
  ∃ G2,Step G H G2 H1/\Rep X.K ad G2 (.lst xs) (.ref p):=by
 refine⟨upd G1 p (.lst vs),st.share n m e, ?_⟩
 unfold Rep
 exact⟨p,vs,rfl,SqL.of aC,q.mono (Same.upd_new m)⟩
theorem ME.thn {k:D->R} (ha:ME X ad a f) (I:Inv X pins σ H s) (hG:Same G H) (hS:SL X.K ad G H ρ σ) (hx:XP X ad σ E) (hr:RK X.K ad G H ((f ρ).bind k) Q E):
  wpAny (model X.prog X.w) X.A (eval a X.env) (fun u s1=> ∃ v d G1 H1,Inv X pins σ H1 s1/\aP v u/\Step G H G1 H1/\Rep X.K ad G1 d v/\RK X.K ad G1 H1 (k d) Q E) X.xe s:=by
 cases e:f ρ with
 | ok d=>
  rw [e] at hr
  refine L2.thn (ha pins s σ H (fun v H1=> ∃ G1,Step G H G1 H1/\Rep X.K ad G1 d v) I ⟨G,ρ,E,hG,hS,hx,by rw [e];exact fun v G1 H1 st q=>⟨G1,st,q⟩⟩) fun u s1 ⟨v,H1,I1,r1,G1,st,q⟩=> ?_
  exact⟨v,d,G1,H1,I1,r1,st,q,RK.step hr st⟩
 | ow xs=>
  rw [e] at hr
  refine L2.thn (ha pins s σ H (fun v H1=> ∃ G1,Step G H G1 H1/\Rep X.K ad G1 (.lst xs) v) I ⟨G,ρ,E,hG,hS,hx,by rw [e];exact fun p vs G1 H1 st n m e' q=>bB st n m e' q⟩) fun u s1 ⟨v,H1,I1,r1,G1,st,q⟩=> ?_
  exact⟨v, .lst xs,G1,H1,I1,r1,st,q,RK.step hr st⟩
 | ex c=>
  rw [e] at hr
  refine L2.thn (ha pins s σ H (fun v H1=>False) I ⟨G,ρ,E,hG,hS,hx,by rw [e];exact hr⟩) fun u s1 ⟨v,H1,I1,r1,q⟩=>q.elim
 | bad=>
  rw [e] at hr
  exact ba hr
theorem aO {i:Int}:Rep X.K ad G (.int i) (.int i):=by unfold Rep;rfl
theorem aZ {i:Bool}:Rep X.K ad G (.bl i) (.bl i):=by unfold Rep;rfl
theorem aBh:Rep X.K ad G .non .non:=by unfold Rep;rfl
theorem aBi {i:Str}:Rep X.K ad G (.str i) (.str i):=by unfold Rep;rfl
theorem oI {i:Nat} {x:Str} (hN:X.N[i]? =some x) (hv:Vis X.env.scope x) (hd:(x==("__debug__":Str))=false) (hcd:(x==("__classdict__":Str))=false):ME X ad (.Name x pos) (aD i):=by
 intro pins s σ H Q I ⟨G,ρ,E,hG,hS,hx,hr⟩
 unfold aD at hr
 cases e:ρ[i]? with
 | none=>
  rw [e] at hr
  exact hr.elim
 | some sl=>
  rw [e] at hr
  cases sl with
  | no=>exact hr.elim
  | dc kvs=>exact hr.elim
  | sd kvs=>exact hr.elim
  | rk _ _=>exact hr.elim
  | ow xs=>exact hr.elim
  | sh d=>
   obtain⟨v,h1,h2⟩:=hS.sh e
   exact aV hN hv hd hcd pins s σ H Q I ⟨v,h1,hr.ok_now hG h2⟩
def MLk (X:Cx) (ad:Ad) (e:Expr) (f:F):Prop:=
 ∀ (pins:List (Addr×Obj)) (s:Shared) (σ:St) (H G:Hp) (ρ:Rho) (k:D->R) (Q:VK) (E:Nat->Hp->Prop),Inv X pins σ H s->Same G H->SL X.K ad G H ρ σ->XP X ad σ E->RK X.K ad G H ((f ρ).bind k) Q E->
  wpAny (model X.prog X.w) X.A (eval e X.env) (fun u s1=> ∃ v d G1 H1,Inv X pins σ H1 s1/\aP v u/\Step G H G1 H1/\(Rep X.K ad G1 d v\/ ∃ a vs ds,d= .lst ds/\v= .ref a/\G1 a=none/\H1 a=some (.lst vs)/\aE X.K ad G1 ds vs)/\RK X.K ad G1 H1 (k d) Q E) X.xe s
theorem ME.look (ha:ME X ad a f):MLk X ad a f:=by
 intro pins s σ H G ρ k Q E I hG hS hx hr
 exact L2.thn (ha.thn I hG hS hx hr) fun u s1 ⟨v,d,G1,H1,I1,r1,st,q,z⟩=>⟨v,d,G1,H1,I1,r1,st, .inl q,z⟩
theorem oJ {k:Const} {j:Nat} {d:D} (e:kD k=some d):ME X ad (.Constant k j pos) (rK d):=by
 intro pins s σ H Q I ⟨G,ρ,E,hG,hS,hx,hr⟩
 cases k with
 | int i=>cases e;exact aEy pins s σ H Q I (hr.ok_now hG aO)
 | bool i=>cases e;exact aJb pins s σ H Q I (hr.ok_now hG aZ)
 | none=>cases e;exact aEz pins s σ H Q I (hr.ok_now hG aBh)
 | str i=>cases e;exact aE0 pins s σ H Q I (hr.ok_now hG aBi)
 | float _=>cases e
 | complex _ _=>cases e
 | bytes _=>cases e
 | ellipsis=>cases e
theorem r8 {x:Str} {d:D} {u:Value} {v:V} (hg:L2.Gl X x) (hm:X.mg x=some u) (r:aP v u) (q: ∀ G,Rep X.K ad G d v) (hd:(x==("__debug__":Str))=false):ME X ad (.Name x pos) (rK d):=by
 intro pins s σ H Q I ⟨G,ρ,E,hG,hS,hx,hr⟩
 exact aAm hg hm r hd pins s σ H Q I (hr.ok_now hG (q G))
def DOp (X:Cx) (ad:Ad) (t:Value->Value->Sem Value) (r:D->D->R):Prop:=
 ∀ (pins:List (Addr×Obj)) (s:Shared) (σ:St) (H G:Hp) (x y:D) (v w:V) (u z:Value) (Q:VK) (E:Nat->Hp->Prop),Inv X pins σ H s->Same G H->Rep X.K ad G x v->Rep X.K ad G y w->aP v u->aP w z->
  RK X.K ad G H (r x y) Q E->wpAny (model X.prog X.w) X.A (t u z) (EP X pins σ Q) X.xe s
theorem y0 {t:Value->Value->Sem Value} {r:D->D->R} (ho:DOp X ad t r) (ha:ME X ad a f) (hb:ME X ad b g) (I:Inv X pins σ H s) (hG:Same G H) (hS:SL X.K ad G H ρ σ) (hx:XP X ad σ E)
  (hr:RK X.K ad G H ((f ρ).bind fun x=>(g ρ).bind fun y=>r x y) Q E):
  wpAny (model X.prog X.w) X.A (eval a X.env) (fun v s₁=>wpAny (model X.prog X.w) X.A (eval b X.env) (fun u s₂=>wpAny (model X.prog X.w) X.A (t v u) (EP X pins σ Q) X.xe s₂) X.xe s₁) X.xe s:=by
 refine L2.thn (ha.thn I hG hS hx hr) fun u s1 hz_=> ?_
 obtain⟨v,d,G1,H1,I1,r1,st1,q1,hr1⟩:=hz_
 refine L2.thn (hb.thn I1 st1.gh (hS.step st1) hx hr1) fun z s2 hz_=> ?_
 obtain⟨w,e,G2,H2,I2,r2,st2,q2,hr2⟩:=hz_
 exact ho pins s2 σ H2 G2 d e v w u z Q E I2 st2.gh (q1.mono st2.sg) q2 r1 r2 hr2
end
section
variable {X:Cx} {ad:Ad} {pins:List (Addr×Obj)} {s:Shared} {σ:St} {H G:Hp} {ρ:Rho} {Q:VK} {E:Nat->Hp->Prop} {pos:Pos} {a b c:Expr} {f g h:F}
theorem oK {n:Nat} (h:n<=LIM):n<=sizeLine:=Nat.le_trans h (by decide)
theorem m8 {i:Int} (h:sml i=true): -(2 ^ 64)<i/\i<2 ^ 64:=by
 unfold sml at h
 rw [aw] at h
 exact⟨of_decide_eq_true h.1,of_decide_eq_true h.2⟩
theorem jM {i:Int} (h:sml i=true):i.natAbs<2 ^ 64:=by
 obtain⟨h1,h2⟩:=m8 h
 omega
theorem sub_int_bool {prog:Program} {w:World} {A:Around} {Ex:Value->Shared->Prop} {s:Shared} {i:Int} {t:Tok} {k:Bool} {Q:Value->Shared->Prop} (h:Q (.int (i - SK.b2i k) s.toks) { s with toks:=s.toks+1 }):
  wpAny (model prog w) A (binaryOp .Sub (.int i t) (.bool k)) Q Ex s:=PySem.IntBool.sub_int_bool h
theorem add_int_bool {prog:Program} {w:World} {A:Around} {Ex:Value->Shared->Prop} {s:Shared} {i:Int} {t:Tok} {k:Bool} {Q:Value->Shared->Prop} (h:Q (.int (i+SK.b2i k) s.toks) { s with toks:=s.toks+1 }):
  wpAny (model prog w) A (binaryOp .Add (.int i t) (.bool k)) Q Ex s:=PySem.add_int_bool h
theorem aBj {prog:Program} {w:World} {A:Around} {Ex:Value->Shared->Prop} {s:Shared} {t b:Addr} {ws:List Value} {Q:Value->Shared->Prop} (ht:IsTup s.heap t #[]) (hb:IsTup s.heap b ws.toArray) (h:Q (.ref b) s):
  wpAny (model prog w) A (binaryOp .Add (.ref t) (.ref b)) Q Ex s:=by
 obtain⟨⟨cls,dd,data,sl⟩,ho,hc,n,hd⟩:=id ht
 obtain⟨⟨cls2,dd2,data2,sl2⟩,ho2,hc2,n2,hd2⟩:=id hb
 simp only at hc hd hc2 hd2
 subst hc hd hc2 hd2
 exact concat_meets ⟨_,ho,rfl⟩ ⟨_,ho2,rfl⟩ noFill_tuple_add seq_tuple_add PySem.F.slot_tuple_add PySem.F.entry_tuple_add (PySem.F.args_tuple_add_2 _ _)
   (tuple_addW0 t b #[] ws.toArray n n2 dd dd2 sl sl2 rfl) ⟨ho,ho2,h⟩
theorem fH (its:List Value) (m:Nat):List.foldl (fun x1 x2=>x1++x2) #[] (ao m its.toArray)=(ao m its).flatten.toArray:=by
 have:=k8 its m []
 rw [List.nil_append] at this
 exact this
theorem aBk {t:Addr} {k:Int} {u:Tok} {xs:List V} {its:List Value} (I:Inv X pins σ H s) (ht:IsTup s.heap t its.toArray) (r:aS xs its) (h0: -1000000<k) (h1:k<1000000) (hz:xs.length * k.toNat<=sizeLine)
  (q: ∀ p,(p=t/\(ao k.toNat xs).flatten=xs->Q (.ref p) H)/\(H p=none->Q (.ref p) (upd H p (.tup (ao k.toNat xs).flatten)))):
  wpAny (model X.prog X.w) X.A (binaryOp .Mult (.ref t) (.int k u)) (EP X pins σ Q) X.xe s:=by
 obtain⟨⟨cls,dd,data,sl⟩,e,hc,n,hd⟩:=id ht
 simp only at hc hd
 subst hc hd
 have hov:(decide (k< -(2 ^ 63))||decide (k≥2 ^ 63))=false:=by
  rw [Bool.or_eq_false_iff]
  exact⟨decide_eq_false (by omega),decide_eq_false (by omega)⟩
 have hlen:its.length * k.toNat<=sizeLine:=by rw [<-r.length];exact hz
 have lrep:(ao k.toNat xs).flatten.length<=sizeLine:=by rw [mR,Nat.mul_comm];exact hz
 refine wpAny_binaryOp_repeat_ref (T:="tuple") (U:="int") (by decide) ⟨_,e,rfl⟩ (fun s'=>typeIs_int s' k u) fU F.fills_int_mul F.slot_int_rmul lE F.slot_int_index.lookup
  (call_meets F.slot_int_rmul (typeIs_int s k u) F.entry_int_rmul (F.args_int_rmul_2 _ _) (eF k u t its.toArray n "tuple" dd sl (.inr rfl))
   ⟨e,rfl,⟨_,e,rfl⟩, ?_⟩)
 by_cases c0:(its.toArray.isEmpty||k==1)=true
 ·refine call_meets F.slot_tuple_mul ⟨_,e,rfl⟩ F.entry_tuple_mul (F.args_tuple_mul_2 _ _) (mT t its.toArray n k u dd sl hov c0) ⟨e, ?_⟩
  refine⟨.ref t,H,I,rfl,(q t).1 ⟨rfl, ?_⟩⟩
  rcases(Bool.or_eq_true _ _).mp c0 with z | z
  ·have:its=[]:=by simpa using z
   have:xs=[]:=r.nil_iff.mp this
   subst this
   simp
  ·have:k=1:=by simpa using z
   subst this
   simp
 ·by_cases c1:(decide (k<=0)||its.toArray.isEmpty)=true
  ·refine call_meets F.slot_tuple_mul ⟨_,e,rfl⟩ F.entry_tuple_mul (F.args_tuple_mul_2 _ _) (mU t its.toArray n k u dd sl hov c0 c1) ⟨e, ?_⟩
   have k0:k.toNat=0:=by
    rcases(Bool.or_eq_true _ _).mp c1 with z | z
    ·have:=of_decide_eq_true z
     omega
    ·exact absurd (by rw [z];rfl) c0
   have q2:=(q s.heap.objs.size).2 (I.hok.fresh (ak _))
   rw [k0] at q2
   refine⟨.ref s.heap.objs.size,_,I.laid (t':=s.toks) (o:= .tup []) (fun b ob q=>ag _ q) (ak _) ?_,rfl,q2⟩
   exact⟨bu _,[], .nil,IsTup.new _ _,⟨_,ah _ rfl,rfl⟩⟩
  ·have kp:0<k:=by
    rw [Bool.or_eq_true,not_or] at c1
    have:=c1.1
    rw [decide_eq_true_iff] at this
    omega
   have kk:(k.toNat:Int)=k:=by omega
   have hm:(its.toArray.size:Int) * k=((its.length * k.toNat:Nat):Int):=by rw [Int.natCast_mul,kk,ax]
   have hs:(sizeLine:Nat)<=(2 ^ 63 - 1) / 8:=by decide
   refine call_meets F.slot_tuple_mul ⟨_,e,rfl⟩ F.entry_tuple_mul (F.args_tuple_mul_2 _ _) (mV t its.toArray n k u dd sl hov c0 c1 ?_ ?_ ?_) ⟨e, ?_⟩
   ·rw [hm]
    have:((its.length * k.toNat:Nat):Int)<=((2 ^ 63 - 1) / 8:Int):=by
     have:=Nat.le_trans hlen hs
     omega
    omega
   ·rw [hm]
    unfold Builtin.Tuple.tupleTooMany
    simp only [decide_eq_true_eq,gt_iff_lt,Int.not_lt]
    exact Int.ofNat_le.mpr hlen
   ·rw [fH,ax,mR,Nat.mul_comm]
    exact hlen
   ·rw [fH]
    refine⟨.ref s.heap.objs.size,_,I.laid (t':=s.toks) (o:= .tup (ao k.toNat xs).flatten) (fun b ob q=>ag _ q) (ak _) ?_,rfl,(q _).2 (I.hok.fresh (ak _))⟩
    exact⟨lrep,_,r.rep k.toNat,IsTup.new _ _,⟨_,ah _ rfl,rfl⟩⟩
theorem aBl {l b:Addr} {xs ys:List V} (I:Inv X pins σ H s) (hl:SqL X.K H l xs) (hb:SqL X.K H b ys) (hz:xs.length+ys.length<=sizeLine) (q: ∀ p,H p=none->Q (.ref p) (upd H p (.lst (xs++ys)))):
  wpAny (model X.prog X.w) X.A (binaryOp .Add (.ref l) (.ref b)) (EP X pins σ Q) X.xe s:=by
 obtain⟨its,r1,⟨⟨cls,dd,data,sl⟩,n,ho,hc,hdd,hd⟩,_⟩:=I.list hl
 obtain⟨its2,r2,⟨⟨cls2,dd2,data2,sl2⟩,n2,ho2,hc2,hdd2,hd2⟩,_⟩:=I.list hb
 simp only at hc hd hc2 hd2 hdd hdd2
 subst hc hd hc2 hd2
 have e:its.toArray++its2.toArray=(its++its2).toArray:=by simp
 refine concat_meets ⟨_,ho,rfl⟩ ⟨_,ho2,rfl⟩ noFill_list_add seq_list_add PySem.F.slot_list_add PySem.F.entry_list_add (PySem.F.args_list_add_2 _ _)
   (list_addW l b its.toArray its2.toArray n n2 dd dd2 sl sl2 (by rw [ax,ax, <-r1.length, <-r2.length];exact hz)) ⟨ho,ho2, ?_⟩
 rw [e]
 exact⟨.ref _,_,I.lnew (t':=s.toks) (r1.append r2) (by rw [bq];exact hz),rfl,q _ I.fresh⟩
theorem aBm {l:Addr} {k:Int} {u:Tok} {xs:List V} (I:Inv X pins σ H s) (hl:SqL X.K H l xs) (h0: -1000000<k) (h1:k<1000000) (hz:xs.length * k.toNat<=sizeLine) (q: ∀ p,H p=none->Q (.ref p) (upd H p (.lst (ao k.toNat xs).flatten))):
  wpAny (model X.prog X.w) X.A (binaryOp .Mult (.ref l) (.int k u)) (EP X pins σ Q) X.xe s:=by
 obtain⟨its,r,⟨⟨cls,dd,data,sl⟩,n,e,hc,hdd,hd⟩,_⟩:=I.list hl
 simp only at hc hd hdd
 subst hc hd
 have hlen:its.toArray.size * k.toNat<=sizeLine:=by rw [ax, <-r.length];exact hz
 have hcap: ¬ its.toArray.size * k.toNat > (2 ^ 63 - 1) / 8:=by
  have:(sizeLine:Nat)<=(2 ^ 63 - 1) / 8:=by decide
  omega
 have hfit: ¬ (!Builtin.List.listFitsIndex k)=true:=by
  rw [fitsIndex_both (by omega) (by omega)]
  exact bg
 have hlong: ¬ Builtin.List.listTooLong (its.toArray.size * k.toNat)=true:=by
  rw [oE hlen]
  exact bg
 have hnew:List.foldl (fun x1 x2=>x1++x2) #[] (ao (if its.toArray.isEmpty=true then 0 else k.toNat) its.toArray)=(ao k.toNat its).flatten.toArray:=by
  rw [fH]
  cases its with
  | nil=>simp
  | cons a r'=>rw [if_neg (by simp)]
 refine wpAny_binaryOp_repeat_ref (T:="list") (U:="int") (by decide) ⟨_,e,rfl⟩ (fun s'=>typeIs_int s' k u) noFill_list_mul F.fills_int_mul F.slot_int_rmul repeat_list F.slot_int_index.lookup
  (call_meets F.slot_int_rmul (typeIs_int s k u) F.entry_int_rmul (F.args_int_rmul_2 _ _) (eF k u l its.toArray n "list" dd sl (.inl rfl))
   ⟨e,rfl,⟨_,e,rfl⟩,call_meets F.slot_list_mul ⟨_,e,rfl⟩ F.entry_list_mul (F.args_list_mul_2 _ _) (rT l its.toArray n k u dd sl hfit hcap hlong) ⟨e, ?_⟩⟩)
 rw [hnew]
 exact⟨.ref _,_,I.lnew (t':=s.toks) (r.rep k.toNat) (by rw [mR,Nat.mul_comm];exact hz),rfl,q _ I.fresh⟩
theorem aBn (op:Operator):DOp X ad (binaryOp op) (iN op):=by
 intro pins s σ H G x y v w u z Q E I hG rx ry ru rz hr
 cases x with
 | int i=>
  unfold Rep at rx
  subst rx
  cases y with
  | int j=>
   unfold Rep at ry
   subst ry
   cases op with
   | Add=>exact aFc pins s σ H _ _ u z Q I ru rz ⟨i,j,rfl,rfl,hr.ok_now hG aO⟩
   | Sub=>exact aFd pins s σ H _ _ u z Q I ru rz ⟨i,j,rfl,rfl,hr.ok_now hG aO⟩
   | Mult=>
    have hr':RK X.K ad G H (if sml i||sml j then R.ok (.int (i * j)) else .bad) Q E:=hr
    by_cases hc:(sml i||sml j)=true
    ·rw [if_pos hc] at hr'
     refine aFe pins s σ H _ _ u z Q I ru rz ⟨i,j,rfl,rfl, ?_,hr'.ok_now hG aO⟩
     rcases(Bool.or_eq_true _ _).mp hc with h | h
     ·exact .inl (m8 h)
     ·exact .inr (m8 h)
    ·rw [if_neg hc] at hr'
     exact hr'.elim
   | FloorDiv=>
    have hr':RK X.K ad G H (if 0<j/\j<1073741824 then R.ok (.int (i / j)) else .bad) Q E:=hr
    by_cases hc:0<j/\j<1073741824
    ·rw [if_pos hc] at hr'
     exact aAt pins s σ H _ _ u z Q I ru rz ⟨i,j,rfl,rfl,hc,hr'.ok_now hG aO⟩
    ·rw [if_neg hc] at hr'
     exact hr'.elim
   | Mod=>
    have hr':RK X.K ad G H (if 0<j then R.ok (.int (i % j)) else .bad) Q E:=hr
    by_cases hc:0<j
    ·rw [if_pos hc] at hr'
     exact aFf pins s σ H _ _ u z Q I ru rz ⟨i,j,rfl,rfl,hc,hr'.ok_now hG aO⟩
    ·rw [if_neg hc] at hr'
     exact hr'.elim
   | LShift=>
    have hr':RK X.K ad G H (if 0<=j/\j<=1000/\sml i=true then R.ok (.int (i * 2 ^ j.toNat)) else .bad) Q E:=hr
    by_cases hc:0<=j/\j<=1000/\sml i=true
    ·rw [if_pos hc] at hr'
     exact aFg pins s σ H _ _ u z Q I ru rz ⟨i,j,rfl,rfl,⟨hc.1,by omega,jM hc.2.2⟩,hr'.ok_now hG aO⟩
    ·rw [if_neg hc] at hr'
     exact hr'.elim
   | RShift=>
    have hr':RK X.K ad G H (if 0<=j then R.ok (.int (i / 2 ^ j.toNat)) else .bad) Q E:=hr
    by_cases hc:0<=j
    ·rw [if_pos hc] at hr'
     exact aFh pins s σ H _ _ u z Q I ru rz ⟨i,j,rfl,rfl,hc,hr'.ok_now hG aO⟩
    ·rw [if_neg hc] at hr'
     exact hr'.elim
   | BitAnd=>exact aFi pins s σ H _ _ u z Q I ru rz ⟨i,j,rfl,rfl,hr.ok_now hG aO⟩
   | BitOr=>exact aJm pins s σ H _ _ u z Q I ru rz ⟨i,j,rfl,rfl,hr.ok_now hG aO⟩
   | BitXor=>exact aFj pins s σ H _ _ u z Q I ru rz ⟨i,j,rfl,rfl,hr.ok_now hG aO⟩
   | MatMult=>exact ba hr
   | Div=>exact ba hr
   | Pow=>exact ba hr
  | bl k=>
   unfold Rep at ry
   subst ry
   obtain⟨t,rfl⟩:=ru
   cases (show z=Value.bool k from rz)
   cases op with
   | Sub=>exact sub_int_bool ⟨.int _,H,I.tok _,⟨_,rfl⟩,hr.ok_now hG aO⟩
   | Add=>exact add_int_bool ⟨.int _,H,I.tok _,⟨_,rfl⟩,hr.ok_now hG aO⟩
   | _=>exact ba hr
  | _=>cases op<;>exact ba hr
 | tup xs=>
  unfold Rep at rx
  obtain⟨p,vs,rfl,hp,rp⟩:=rx
  cases y with
  | tup ys=>
   unfold Rep at ry
   obtain⟨q,ws,rfl,hq,rq⟩:=ry
   cases op with
   | Add=>
    have hr':RK X.K ad G H (if xs.length+ys.length<=LIM then R.ok (.tup (xs++ys)) else .bad) Q E:=hr
    by_cases hc:xs.length+ys.length<=LIM
    ·rw [if_pos hc] at hr'
     have l1:=rp.length
     have l2:=rq.length
     by_cases hv:vs=[]
     ·subst hv
      cases (show u=Value.ref p from ru)
      cases (show z=Value.ref q from rz)
      obtain⟨its,r1,p1,_⟩:=I.tuple (hG.seqT hp)
      obtain⟨its2,r2,p2,_⟩:=I.tuple (hG.seqT hq)
      cases r1
      refine aBj p1 p2 ⟨.ref q,H,I,rfl,hr'.ok_now hG ?_⟩
      have:xs=[]:=by simpa using l1.symm
      subst this
      unfold Rep
      exact⟨q,ws,rfl,hq,rq⟩
     ·refine aA1 pins s σ H _ _ u z Q I ru rz ⟨p,q,vs,ws,rfl,rfl,hG.seqT hp,hG.seqT hq,hv,by rw [l1,l2];exact oK hc,fun hw=> ?_,fun hw a ha=> ?_⟩
      ·subst hw
       have:ys=[]:=by simpa using l2.symm
       subst this
       refine hr'.ok_now hG ?_
       unfold Rep
       exact⟨p,vs,rfl,hp,by rw [List.append_nil];exact rp⟩
      ·exact hr'.tup_new hG (rp.append rq) ha
    ·rw [if_neg hc] at hr'
     exact hr'.elim
   | _=>exact ba hr
  | int k=>
   unfold Rep at ry
   subst ry
   cases op with
   | Mult=>
    have hr':RK X.K ad G H (if -1000000<k/\k<1000000/\xs.length * k.toNat<=LIM then R.ok (.tup (aIx xs k)) else .bad) Q E:=hr
    by_cases hc: -1000000<k/\k<1000000/\xs.length * k.toNat<=LIM
    ·rw [if_pos hc] at hr'
     cases (show u=Value.ref p from ru)
     obtain⟨t,rfl⟩:=rz
     obtain⟨its,r1,p1,_⟩:=I.tuple (hG.seqT hp)
     refine aBk I p1 r1 hc.1 hc.2.1 (by rw [rp.length];exact oK hc.2.2) fun a=>⟨fun⟨e1,e2⟩=> ?_,fun ha=> ?_⟩
     ·subst e1
      refine hr'.ok_now hG ?_
      unfold Rep
      exact⟨a,vs,rfl,hp,by rw [<-e2];exact rp.rep k.toNat⟩
     ·exact hr'.tup_new hG (rp.rep k.toNat) ha
    ·rw [if_neg hc] at hr'
     exact hr'.elim
   | _=>exact ba hr
  | _=>cases op<;>exact ba hr
 | lst xs=>
  unfold Rep at rx
  obtain⟨p,vs,rfl,hp,rp⟩:=rx
  cases y with
  | lst ys=>
   unfold Rep at ry
   obtain⟨q,ws,rfl,hq,rq⟩:=ry
   cases op with
   | Add=>
    have hr':RK X.K ad G H (if xs.length+ys.length<=LIM then R.ow (xs++ys) else .bad) Q E:=hr
    by_cases hc:xs.length+ys.length<=LIM
    ·rw [if_pos hc] at hr'
     cases (show u=Value.ref p from ru)
     cases (show z=Value.ref q from rz)
     exact aBl I (hG.seq hp) (hG.seq hq) (by rw [rp.length,rq.length];exact oK hc) fun a ha=>hr'.ow_new hG (rp.append rq) ha
    ·rw [if_neg hc] at hr'
     exact hr'.elim
   | _=>exact ba hr
  | int k=>
   unfold Rep at ry
   subst ry
   cases op with
   | Mult=>
    have hr':RK X.K ad G H (if -1000000<k/\k<1000000/\xs.length * k.toNat<=LIM then R.ow (aIx xs k) else .bad) Q E:=hr
    by_cases hc: -1000000<k/\k<1000000/\xs.length * k.toNat<=LIM
    ·rw [if_pos hc] at hr'
     cases (show u=Value.ref p from ru)
     obtain⟨t,rfl⟩:=rz
     exact aBm I (hG.seq hp) hc.1 hc.2.1 (by rw [rp.length];exact oK hc.2.2) fun a ha=>hr'.ow_new hG (rp.rep k.toNat) ha
    ·rw [if_neg hc] at hr'
     exact hr'.elim
   | _=>exact ba hr
  | _=>cases op<;>exact ba hr
 | _=>cases y<;>cases op<;>exact ba hr
theorem y6 {op:Operator} (ha:ME X ad a f) (hb:ME X ad b g):ME X ad (.BinOp a op b pos) (bD op f g):=by
 intro pins s σ H Q I ⟨G,ρ,E,hG,hS,hx,hr⟩
 exact wpAny_BinOp (y0 (aBn op) ha hb I hG hS hx hr)
end
section
variable {X:Cx} {ad:Ad} {pins:List (Addr×Obj)} {s:Shared} {σ:St} {H G:Hp} {ρ:Rho} {Q:VK} {E:Nat->Hp->Prop} {pos:Pos} {a b c:Expr} {f g h:F}
mutual
theorem cW (I:Inv X pins σ H s) (hG:Same G H): ∀ {d:D} {v:V} {u:Value},plain d=true->Rep X.K ad G d v->aP v u-> ∃ as,Reads s.heap u (b9 d) as
 | .non,v,u,_,h,r=>by
  unfold Rep at h;subst h
  cases r
  unfold b9
  exact⟨_, .none⟩
 | .bl b,v,u,_,h,r=>by
  unfold Rep at h;subst h
  cases r
  unfold b9
  exact⟨_, .bool b⟩
 | .int i,v,u,_,h,r=>by
  unfold Rep at h;subst h
  obtain⟨t,rfl⟩:=r
  unfold b9
  exact⟨_, .int i t⟩
 | .str x,v,u,_,h,r=>by
  unfold Rep at h;subst h
  obtain⟨t,rfl⟩:=r
  unfold b9
  exact⟨_, .str x t⟩
 | .tup ds,v,u,p,h,r=>by
  unfold Rep at h
  obtain⟨a,vs,rfl,h2,h3⟩:=h
  cases r
  obtain⟨its,rv,⟨o,ho,hc,n,hd⟩,_⟩:=I.tuple (hG.seqT h2)
  obtain⟨as,ra⟩:=eN I hG (by simpa [plain] using p) h3 rv
  unfold b9
  exact⟨_, .tuple ho hc hd (by simpa using ra)⟩
 | .lst ds,v,u,p,h,r=>by
  unfold Rep at h
  obtain⟨a,vs,rfl,h2,h3⟩:=h
  cases r
  obtain⟨its,rv,⟨o,n,ho,hc,_,hd⟩,_⟩:=I.list (hG.seq h2)
  obtain⟨as,ra⟩:=eN I hG (by simpa [plain] using p) h3 rv
  unfold b9
  exact⟨_, .list ho hc hd (by simpa using ra)⟩
 | .exc _,_,_,p,_,_=>by simp [plain] at p
 | .fn _,_,_,p,_,_=>by simp [plain] at p
theorem eN (I:Inv X pins σ H s) (hG:Same G H): ∀ {ds:List D} {vs:List V} {us:List Value},aY ds=true->aE X.K ad G ds vs->aS vs us-> ∃ as,ReadsAll s.heap us (cH ds) as
 | [],vs,us,_,h,r=>by
  unfold aE at h;subst h
  cases r
  unfold cH
  exact⟨_, .nil⟩
 | d::ds,vs,us,p,h,r=>by
  unfold aE at h
  obtain⟨v,r',rfl,h2,h3⟩:=h
  have p':plain d=true/\aY ds=true:=by simpa [aY] using p
  cases r with
  | cons r1 r2=>
   obtain⟨as,q1⟩:=cW I hG p'.1 h2 r1
   obtain⟨bs,q2⟩:=eN I hG p'.2 h3 r2
   unfold cH
   exact⟨_, .cons q1 q2⟩
end
theorem fY {x y:D} (h:oF x y=true):plain x=true/\plain y=true/\min (dep x) (dep y)<=60:=by
 unfold oF at h
 rw [aw,aw] at h
 exact⟨h.1.1,h.1.2,of_decide_eq_true h.2⟩
theorem aBo {A:Around} {x y:D} {v w:V} {u z:Value} (hu:A.units+61<cLine) (I:Inv X pins σ H s) (hG:Same G H) (h:oF x y=true) (rx:Rep X.K ad G x v) (ry:Rep X.K ad G y w) (ru:aP v u) (rz:aP w z):
  SeqAt.EqAt A s u z (deq x y):=by
 obtain⟨p1,p2,p3⟩:=fY h
 obtain⟨as,q1⟩:=cW I hG p1 rx ru
 obtain⟨bs,q2⟩:=cW I hG p2 ry rz
 rw [<-g6 x y p1 p2]
 exact SeqAt.eqAt_reads (b9 x) (b9 y) A s u z as bs q1 q2 (fS p1) (fS p2) (by rw [g0,g0];omega)
theorem m9 {M:Model} {A:Around} {Ex:Value->Shared->Prop} {s:Shared} {Q:Value->Shared->Prop} {v:V} {u:Value} {b:Bool} (r:aP v u) (h:Q (.bool (decide (v= .bl b))) s):wpAny M A (compareOp .Is u (.bool b)) Q Ex s:=by
 cases v with
 | bl a=>
  cases (show u=Value.bool a from r)
  refine af (show Q (.bool (Value.bool a==Value.bool b)) s from ?_)
  have e:(Value.bool a==Value.bool b)=decide (V.bl a=V.bl b):=by cases a<;>cases b<;>rfl
  rw [e];exact h
 | non=>cases (show u=Value.none from r);exact af h
 | int i=>obtain⟨t,rfl⟩:=r;exact af h
 | str i=>obtain⟨t,rfl⟩:=r;exact af h
 | byt i=>obtain⟨t,rfl⟩:=r;exact af h
 | flt i=>obtain⟨t,rfl⟩:=r;exact af h
 | ref p=>cases (show u=Value.ref p from r);exact af h
 | ty p=>cases (show u=Value.type p from r);exact af h
theorem iS {M:Model} {A:Around} {Ex:Value->Shared->Prop} {s:Shared} {Q:Value->Shared->Prop} {v:V} {u:Value} {b:Bool} (r:aP v u) (h:Q (.bool (!decide (v= .bl b))) s):wpAny M A (compareOp .IsNot u (.bool b)) Q Ex s:=by
 cases v with
 | bl a=>
  cases (show u=Value.bool a from r)
  refine af (show Q (.bool (!(Value.bool a==Value.bool b))) s from ?_)
  have e:(Value.bool a==Value.bool b)=decide (V.bl a=V.bl b):=by cases a<;>cases b<;>rfl
  rw [e];exact h
 | non=>cases (show u=Value.none from r);exact af h
 | int i=>obtain⟨t,rfl⟩:=r;exact af h
 | str i=>obtain⟨t,rfl⟩:=r;exact af h
 | byt i=>obtain⟨t,rfl⟩:=r;exact af h
 | flt i=>obtain⟨t,rfl⟩:=r;exact af h
 | ref p=>cases (show u=Value.ref p from r);exact af h
 | ty p=>cases (show u=Value.type p from r);exact af h
theorem lM {x:D} {v:V} {b:Bool} (r:Rep X.K ad G x v):decide (v= .bl b)=aJw b x:=by
 cases x with
 | bl a=>unfold Rep at r;subst r;cases a<;>cases b<;>rfl
 | non=>unfold Rep at r;subst r;rfl
 | int _=>unfold Rep at r;subst r;rfl
 | str _=>unfold Rep at r;subst r;rfl
 | tup _=>unfold Rep at r;obtain⟨p,_,rfl,_⟩:=r;rfl
 | lst _=>unfold Rep at r;obtain⟨p,_,rfl,_⟩:=r;rfl
 | exc _=>unfold Rep at r;obtain⟨p,rfl,_⟩:=r;rfl
 | fn _=>unfold Rep at r;subst r;rfl
theorem i0 {x:D} {v:V} (r:Rep X.K ad G x v):decide (v= .non)=aA5 x:=by
 cases x with
 | bl a=>unfold Rep at r;subst r;rfl
 | non=>unfold Rep at r;subst r;rfl
 | int _=>unfold Rep at r;subst r;rfl
 | str _=>unfold Rep at r;subst r;rfl
 | tup _=>unfold Rep at r;obtain⟨p,_,rfl,_⟩:=r;rfl
 | lst _=>unfold Rep at r;obtain⟨p,_,rfl,_⟩:=r;rfl
 | exc _=>unfold Rep at r;obtain⟨p,rfl,_⟩:=r;rfl
 | fn _=>unfold Rep at r;subst r;rfl
theorem hF {y:D} {ys:List D} {w:V} (e:items y=some ys) (r:Rep X.K ad G y w): ∃ a vs,w= .ref a/\(SqT X.K G a vs\/SqL X.K G a vs)/\aE X.K ad G ys vs:=by
 cases y with
 | tup _=>cases e;unfold Rep at r;obtain⟨a,vs,h1,h2,h3⟩:=r;exact⟨a,vs,h1, .inl h2,h3⟩
 | lst _=>cases e;unfold Rep at r;obtain⟨a,vs,h1,h2,h3⟩:=r;exact⟨a,vs,h1, .inr h2,h3⟩
 | _=>cases e
theorem oM: ∀ {ys:List D} {vs:List V} {us:List Value},aE X.K ad G ys vs->aS vs us-> ∀ u∈us, ∃ d∈ys, ∃ v,Rep X.K ad G d v/\aP v u
 | [],vs,us,h,r,u,hu=>by
  unfold aE at h;subst h
  cases r
  cases hu
 | d::ds,vs,us,h,r,u,hu=>by
  unfold aE at h
  obtain⟨v,r',rfl,h2,h3⟩:=h
  cases r with
  | cons r1 r2=>
   rcases av.mp hu with rfl | hu
   ·exact⟨d, .head _,v,h2,r1⟩
   ·obtain⟨d',hd,v',q⟩:=oM h3 r2 u hu
    exact⟨d', .tail _ hd,v',q⟩
theorem oN (p:D->Bool) (q:Value->Bool): ∀ {ys:List D} {vs:List V} {us:List Value},aE X.K ad G ys vs->aS vs us->(∀ d∈ys, ∀ v u,Rep X.K ad G d v->aP v u->q u=p d)->us.any q=ys.any p
 | [],vs,us,h,r,_=>by
  unfold aE at h;subst h
  cases r
  rfl
 | d::ds,vs,us,h,r,k=>by
  unfold aE at h
  obtain⟨v,r',rfl,h2,h3⟩:=h
  cases r with
  | cons r1 r2=>
   rw [List.any_cons,List.any_cons,k d (.head _) v _ h2 r1,oN p q h3 r2 fun d' hd=>k d' (.tail _ hd)]
theorem i3 (p:D->Bool) (q:Value->Bool): ∀ {ys:List D} {vs:List V} {us:List Value},aE X.K ad G ys vs->aS vs us->(∀ d∈ys, ∀ v u,Rep X.K ad G d v->aP v u->q u=p d)->us.countP q=ys.countP p
 | [],vs,us,h,r,_=>by
  unfold aE at h;subst h
  cases r
  rfl
 | d::ds,vs,us,h,r,k=>by
  unfold aE at h
  obtain⟨v,r',rfl,h2,h3⟩:=h
  cases r with
  | cons r1 r2=>
   rw [List.countP_cons,List.countP_cons,k d (.head _) v _ h2 r1,i3 p q h3 r2 fun d' hd=>k d' (.tail _ hd)]
theorem lN (p:D->Bool) (q:Value->Bool): ∀ {ys:List D} {vs:List V} {us:List Value},aE X.K ad G ys vs->aS vs us->(∀ d∈ys, ∀ v u,Rep X.K ad G d v->aP v u->q u=p d)->us.findIdx? q=ys.findIdx? p
 | [],vs,us,h,r,_=>by
  unfold aE at h;subst h
  cases r
  rfl
 | d::ds,vs,us,h,r,k=>by
  unfold aE at h
  obtain⟨v,r',rfl,h2,h3⟩:=h
  cases r with
  | cons r1 r2=>
   rw [List.findIdx?_cons,List.findIdx?_cons,k d (.head _) v _ h2 r1,lN p q h3 r2 fun d' hd=>k d' (.tail _ hd)]
open Classical in
theorem i4 {x:D} {ys:List D} {v:V} {u:Value} {vs:List V} {its:List Value} (hu:X.A.units+62<cLine) (I:Inv X pins σ H s) (hG:Same G H) (h:mF x ys=true) (rx:Rep X.K ad G x v) (ru:aP v u) (r:aE X.K ad G ys vs) (rv:aS vs its):
  ∃ e:Value->Bool,(∀ y,y∈its.toArray->SeqAt.EqAt X.A.in1 s y u (e y))/\its.toArray.any e=(ys.any fun y=>deq y x)/\its.countP e=(ys.countP fun y=>deq y x)/\its.findIdx? e=ys.findIdx? fun y=>deq y x:=by
 have ok: ∀ d∈ys,oF d x=true:=fun d hd=>zAd h d hd
 have key: ∀ d∈ys, ∀ v' u',Rep X.K ad G d v'->aP v' u'->(decide (∃ d' as,plain d'=true/\Reads s.heap u' (b9 d') as/\PyData.eqv (b9 d') (b9 x)=true))=deq d x:=fun d hd v' u' r1 r2=>by
  obtain⟨p1,p2,_⟩:=fY (ok d hd)
  obtain⟨as,q1⟩:=cW I hG p1 r1 r2
  rw [<-g6 d x p1 p2]
  by_cases z:PyData.eqv (b9 d) (b9 x)=true
  ·rw [z]
   exact decide_eq_true ⟨d,as,p1,q1,z⟩
  ·rw [Bool.not_eq_true] at z
   rw [z]
   refine decide_eq_false ?_
   rintro⟨d',as',p',q',z'⟩
   have:=SeqAt.Reads.unique (b9 d) (b9 d') u' as as' (fS p1) q1 q'
   rw [<-this,z] at z'
   cases z'
 refine⟨fun u'=>decide (∃ d' as,plain d'=true/\Reads s.heap u' (b9 d') as/\PyData.eqv (b9 d') (b9 x)=true),fun y hy=> ?_, ?_,i3 _ _ r rv key,lN _ _ r rv key⟩
 ·obtain⟨d,hd,v',r1,r2⟩:=oM r rv y (by simpa using hy)
  have:=aBo (A:=X.A.in1) (by show X.A.units+1+61<_;omega) I hG (ok d hd) r1 rx r2 ru
  rw [<-key d hd v' y r1 r2] at this
  exact this
 ·rw [List.any_toArray]
  exact oN _ _ r rv key
theorem dU (op:CmpOp) (hu:X.A.units+62<cLine):DOp X ad (compareOp op) (fX op):=by
 intro pins s σ H G x y v w u z Q E I hG rx ry ru rz hr
 cases op with
 | Eq=>
  have hr':RK X.K ad G H (if oF x y then R.ok (.bl (deq x y)) else .bad) Q E:=hr
  by_cases hc:oF x y=true
  ·rw [if_pos hc] at hr'
   obtain⟨p1,p2,p3⟩:=fY hc
   obtain⟨as,q1⟩:=cW I hG p1 rx ru
   obtain⟨bs,q2⟩:=cW I hG p2 ry rz
   exact SeqAt.compareEq_reads q1 q2 (fS p1) (fS p2) (by rw [g0,g0];omega) (by rw [g6 x y p1 p2];exact⟨.bl _,H,I,rfl,hr'.ok_now hG aZ⟩)
  ·rw [if_neg hc] at hr'
   exact hr'.elim
 | NotEq=>
  have hr':RK X.K ad G H (if oF x y then R.ok (.bl (!deq x y)) else .bad) Q E:=hr
  by_cases hc:oF x y=true
  ·rw [if_pos hc] at hr'
   obtain⟨p1,p2,p3⟩:=fY hc
   obtain⟨as,q1⟩:=cW I hG p1 rx ru
   obtain⟨bs,q2⟩:=cW I hG p2 ry rz
   exact SeqAt.neOverData X.prog X.w X.A X.xe s u z (b9 x) (b9 y) as bs _ q1 q2 (fS p1) (fS p2) (by rw [g0,g0];omega) (by rw [g6 x y p1 p2];exact⟨.bl _,H,I,rfl,hr'.ok_now hG aZ⟩)
  ·rw [if_neg hc] at hr'
   exact hr'.elim
 | Lt=>
  cases x<;>cases y<;>try exact ba hr
  unfold Rep at rx ry;subst rx;subst ry
  exact aJn pins s σ H _ _ u z Q I ru rz ⟨_,_,rfl,rfl,hr.ok_now hG aZ⟩
 | LtE=>
  cases x<;>cases y<;>try exact ba hr
  ·unfold Rep at rx ry;subst rx;subst ry
   exact aJo pins s σ H _ _ u z Q I ru rz ⟨_,_,rfl,rfl,hr.ok_now hG aZ⟩
  ·rename_i i j
   unfold Rep at rx ry;subst rx;subst ry
   obtain⟨t,rfl⟩:=(show ∃ t,u=Value.str i t from ru)
   obtain⟨t',rfl⟩:=(show ∃ t,z=Value.str j t from rz)
   exact PySem.P.le_str ⟨.bl _,H,I,rfl,hr.ok_now hG aZ⟩
 | Gt=>
  cases x<;>cases y<;>try exact ba hr
  unfold Rep at rx ry;subst rx;subst ry
  exact aJp pins s σ H _ _ u z Q I ru rz ⟨_,_,rfl,rfl,hr.ok_now hG aZ⟩
 | GtE=>
  cases x<;>cases y<;>try exact ba hr
  unfold Rep at rx ry;subst rx;subst ry
  exact aJq pins s σ H _ _ u z Q I ru rz ⟨_,_,rfl,rfl,hr.ok_now hG aZ⟩
 | Is=>
  cases y<;>try exact ba hr
  ·unfold Rep at ry;subst ry
   exact aFl pins s σ H _ _ u z Q I ru rz ⟨rfl,by rw [i0 rx];exact hr.ok_now hG aZ⟩
  ·unfold Rep at ry;subst ry
   rename_i k
   cases (show z=Value.bool k from rz)
   exact m9 ru ⟨.bl _,H,I,rfl,by rw [lM rx];exact hr.ok_now hG aZ⟩
 | IsNot=>
  cases y<;>try exact ba hr
  ·unfold Rep at ry;subst ry
   exact aAu pins s σ H _ _ u z Q I ru rz ⟨rfl,by rw [i0 rx];exact hr.ok_now hG aZ⟩
  ·unfold Rep at ry;subst ry
   rename_i k
   cases (show z=Value.bool k from rz)
   exact iS ru ⟨.bl _,H,I,rfl,by rw [lM rx];exact hr.ok_now hG aZ⟩
 | In=>
  have hr':RK X.K ad G H (match items y with | some ys=>if mF x ys then R.ok (.bl (ys.any fun y=>deq y x)) else .bad | none=> .bad) Q E:=hr
  cases e:items y with
  | none=>rw [e] at hr';exact hr'.elim
  | some ys=>
   rw [e] at hr'
   by_cases hc:mF x ys=true
   ·have hr2:RK X.K ad G H (if mF x ys then R.ok (.bl (ys.any fun y=>deq y x)) else .bad) Q E:=hr'
    rw [if_pos hc] at hr2
    obtain⟨p,vs,rfl,hq,rq⟩:=hF e ry
    cases (show z=Value.ref p from rz)
    rcases hq with hq | hq
    ·obtain⟨its,rv,pt,_⟩:=I.tuple (hG.seqT hq)
     obtain⟨e1,e2,e3,_⟩:=i4 hu I hG hc rx ru rq rv
     exact SeqAt.in_tupleAt e1 (show s.heap.IsTuple p its.toArray from pt) e2 (by rw [e3];exact⟨.bl _,H,I,rfl,hr2.ok_now hG aZ⟩)
    ·obtain⟨its,rv,pt,_⟩:=I.list (hG.seq hq)
     obtain⟨e1,e2,e3,_⟩:=i4 hu I hG hc rx ru rq rv
     exact SeqAt.in_listAt e1 pt.isList e2 (by rw [e3];exact⟨.bl _,H,I,rfl,hr2.ok_now hG aZ⟩)
   ·have hr2:RK X.K ad G H (if mF x ys then R.ok (.bl (ys.any fun y=>deq y x)) else .bad) Q E:=hr'
    rw [if_neg hc] at hr2
    exact hr2.elim
 | NotIn=>
  have hr':RK X.K ad G H (match items y with | some ys=>if mF x ys then R.ok (.bl (!ys.any fun y=>deq y x)) else .bad | none=> .bad) Q E:=hr
  cases e:items y with
  | none=>rw [e] at hr';exact hr'.elim
  | some ys=>
   rw [e] at hr'
   have hr2:RK X.K ad G H (if mF x ys then R.ok (.bl (!ys.any fun y=>deq y x)) else .bad) Q E:=hr'
   by_cases hc:mF x ys=true
   ·rw [if_pos hc] at hr2
    obtain⟨p,vs,rfl,hq,rq⟩:=hF e ry
    cases (show z=Value.ref p from rz)
    rcases hq with hq | hq
    ·obtain⟨its,rv,pt,_⟩:=I.tuple (hG.seqT hq)
     obtain⟨e1,e2,e3,_⟩:=i4 hu I hG hc rx ru rq rv
     exact SeqAt.notIn_tupleAt e1 (show s.heap.IsTuple p its.toArray from pt) e2 (by rw [e3];exact⟨.bl _,H,I,rfl,hr2.ok_now hG aZ⟩)
    ·obtain⟨its,rv,pt,_⟩:=I.list (hG.seq hq)
     obtain⟨e1,e2,e3,_⟩:=i4 hu I hG hc rx ru rq rv
     exact SeqAt.notIn_listAt e1 pt.isList e2 (by rw [e3];exact⟨.bl _,H,I,rfl,hr2.ok_now hG aZ⟩)
   ·rw [if_neg hc] at hr2
    exact hr2.elim
end
theorem PE.imp {X:Cx} {e:Expr} {t t':TE} (h:PE X e t) (k: ∀ σ H Q,t' σ H Q->t σ H Q):PE X e t':=fun pins s σ H Q I w=>h pins s σ H Q I (k σ H Q w)
theorem PT.imp {X:Cx} {e:Expr} {t t':TT} (h:PT X e t) (k: ∀ σ H Q,t' σ H Q->t σ H Q):PT X e t':=fun pins s σ H Q I w=>h pins s σ H Q I (k σ H Q w)
theorem PW.imp {X:Cx} {e:Expr} {t t':TT} (h:PW X e t) (k: ∀ σ H Q,t' σ H Q->t σ H Q):PW X e t':=fun wh pins s σ H Q I w=>h wh pins s σ H Q I (k σ H Q w)
theorem PS.imp {X:Cx} {e:Stmt} {t t':TS} (h:PS X e t) (k: ∀ D σ H,t' D σ H->t D σ H):PS X e t':=fun pins s σ H D I w=>h pins s σ H D I (k D σ H w)
theorem PSs.imp {X:Cx} {e:List Stmt} {t t':TS} (h:PSs X e t) (k: ∀ D σ H,t' D σ H->t D σ H):PSs X e t':=fun pins s σ H D I w=>h pins s σ H D I (k D σ H w)
theorem PA.imp {X:Cx} {es:List Expr} {t t':TA} (h:PA X es t) (k: ∀ σ H Q,t' σ H Q->t σ H Q):PA X es t':=fun p pins s σ H Q I w=>h p pins s σ H Q I (k σ H Q w)
section
variable {X:Cx} {ad:Ad} {pins:List (Addr×Obj)} {s:Shared} {σ:St} {H G:Hp} {ρ:Rho} {Q:VK} {E:Nat->Hp->Prop} {pos:Pos} {a b c:Expr} {f g h:F}
theorem eO {k:D->R} {σ:St} {H:Hp} {Q Q':VK} (hG:Same G H) (hS:SL X.K ad G H ρ σ) (hx:XP X ad σ E) (hr:RK X.K ad G H ((f ρ).bind k) Q E)
  (q: ∀ v d G1 H1,Step G H G1 H1->Rep X.K ad G1 d v->RK X.K ad G1 H1 (k d) Q E->Q' v H1):tE X ad f σ H Q':=by
 refine⟨G,ρ,E,hG,hS,hx, ?_⟩
 cases e:f ρ with
 | ok d=>
  rw [e] at hr
  exact fun v G1 H1 st r=>q v d G1 H1 st r (RK.step hr st)
 | ow xs=>
  rw [e] at hr
  intro p vs G1 H1 st n m e' r
  obtain⟨G2,st2,r2⟩:=bB (X:=X) (ad:=ad) st n m e' r
  exact q _ _ G2 H1 st2 r2 (RK.step hr st2)
 | ex c=>
  rw [e] at hr
  exact hr
 | bad=>
  rw [e] at hr
  exact hr
theorem jN (hx:XP X ad σ E) {G1 H1:Hp} (st:Step G H G1 H1) (hS:SL X.K ad G H ρ σ) {Q:VK} (hr:RK X.K ad G1 H1 (f ρ) Q E):tE X ad f σ H1 Q:=⟨G1,ρ,E,st.gh,hS.step st,hx,hr⟩
theorem aGb (ha:ME X ad a f):ME X ad (.UnaryOp .Not a pos) (qB f):=by
 refine PE.imp (aE5 ha) ?_
 rintro σ H Q ⟨G,ρ,E,hG,hS,hx,hr⟩
 refine eO hG hS hx hr fun v d G1 H1 st r k=> ?_
 cases d<;>try exact ba k
 unfold Rep at r;subst r
 exact⟨_,rfl,k.ok_now st.gh aZ⟩
theorem aGc (ha:ME X ad a f):ME X ad (.UnaryOp .USub a pos) (aLr f):=by
 refine PE.imp (aJk aFk ha) ?_
 rintro σ H Q ⟨G,ρ,E,hG,hS,hx,hr⟩
 refine eO hG hS hx hr fun v d G1 H1 st r k=> ?_
 cases d<;>try exact ba k
 unfold Rep at r;subst r
 exact⟨_,rfl,k.ok_now st.gh aO⟩
theorem aGd {σ:St} {H:Hp} {Q:VK} (h:tE X ad (mW f g) σ H Q):aAn (tE X ad f) (tE X ad g) σ H Q:=by
 obtain⟨G,ρ,E,hG,hS,hx,hr⟩:=h
 refine eO hG hS hx hr fun v d G1 H1 st r k=> ?_
 cases d<;>try exact ba k
 rename_i b
 unfold Rep at r;subst r
 refine⟨b,rfl, ?_⟩
 cases b with
 | true=>exact p8 (jN hx st hS k)
 | false=>exact q0 (k.ok_now st.gh aZ)
theorem aKb {σ:St} {H:Hp} {Q:VK} (h:tE X ad (rOr f g) σ H Q):aLi (tE X ad f) (tE X ad g) σ H Q:=by
 obtain⟨G,ρ,E,hG,hS,hx,hr⟩:=h
 refine eO hG hS hx hr fun v d G1 H1 st r k=> ?_
 cases d<;>try exact ba k
 rename_i b
 unfold Rep at r;subst r
 refine⟨b,rfl, ?_⟩
 cases b with
 | true=>exact p8 (k.ok_now st.gh aZ)
 | false=>exact q0 (jN hx st hS k)
theorem y8 {r:List Expr} (ha:ME X ad a f) (hb:ME X ad (.BoolOp .And (b::r) pos) g):ME X ad (.BoolOp .And (a::b::r) pos) (mW f g):=PE.imp (yJ ha hb) fun _ _ _ h=>aGd h
theorem aGe {r:List Expr} (ha:ME X ad a f) (hb:ME X ad (.BoolOp .Or (b::r) pos) g):ME X ad (.BoolOp .Or (a::b::r) pos) (rOr f g):=PE.imp (aJd ha hb) fun _ _ _ h=>aKb h
theorem y9 {op:BoolOp} (hb:ME X ad b g):ME X ad (.BoolOp op [b] pos) g:=aE4 hb
theorem aKc {σ:St} {H:Hp} {Q:Bool->Hp->Prop} (h:tT X ad f σ H Q):tE X ad f σ H fun x H1=> ∃ k,x= .bl k/\Q k H1:=by
 obtain⟨G,ρ,E,hG,hS,hx,ht,hr⟩:=h
 exact⟨G,ρ,E,hG,hS,hx,hr⟩
theorem zA (ha:ME X ad a f) (he: ∀ whole,isTrue a X.env whole=(do let v<-whole;standAt a.pos;holding [v] (truthy v))):MT X ad a f:=PT.imp (aE2 ha he) fun _ _ _ h=>aKc h
theorem dH {r:R} {k:D->R} (h:g9 (r.bind k)):(∃ d,r= .ok d/\g9 (k d))\/(∃ xs,r= .ow xs/\g9 (k (.lst xs)))\/ ∃ c,r= .ex c:=by
 cases r with
 | ok d=>exact .inl ⟨d,rfl,h⟩
 | ow xs=>exact .inr (.inl ⟨xs,rfl,h⟩)
 | ex c=>exact .inr (.inr ⟨c,rfl⟩)
 | bad=>
  rcases h with ⟨_,h⟩ | ⟨_,h⟩<;>cases h
theorem a9: ¬ g9 .bad:=by
 rintro(⟨_,h⟩ | ⟨_,h⟩)<;>cases h
theorem aGf {σ:St} {H:Hp} {Q:Bool->Hp->Prop} (h:tT X ad (qB f) σ H Q):aLh (tT X ad f) σ H Q:=by
 obtain⟨G,ρ,E,hG,hS,hx,ht,hr⟩:=h
 rcases dH ht with ⟨d,e,ht⟩ | ⟨xs,e,ht⟩ | ⟨c,e⟩
 ·cases d<;>try exact(a9 ht).elim
  rename_i b
  refine⟨G,ρ,E,hG,hS,hx, .inl ⟨b,e⟩, ?_⟩
  have hr':RK X.K ad G H ((f ρ).bind fun x=>match x with | .bl b=> .ok (.bl (!b)) | _=> .bad) (fun v H'=> ∃ b,v= .bl b/\Q b H') E:=hr
  rw [e] at hr' ⊢
  intro v G1 H1 st r
  unfold Rep at r;subst r
  obtain⟨b',e',q⟩:=hr' (.bl (!b)) G1 H1 st aZ
  cases e'
  exact⟨b,rfl,q⟩
 ·exact(a9 ht).elim
 ·refine⟨G,ρ,E,hG,hS,hx, .inr ⟨c,e⟩, ?_⟩
  have hr':RK X.K ad G H ((f ρ).bind fun x=>match x with | .bl b=> .ok (.bl (!b)) | _=> .bad) (fun v H'=> ∃ b,v= .bl b/\Q b H') E:=hr
  rw [e] at hr' ⊢
  exact hr'
theorem zB (ha:MT X ad a f):MT X ad (.UnaryOp .Not a pos) (qB f):=PT.imp (aE3 ha) fun _ _ _ h=>aGf h
theorem aGg {σ:St} {H:Hp} {Q:Bool->Hp->Prop} (h:tT X ad (mW f g) σ H Q):aLg (tT X ad f) (tT X ad g) σ H Q:=by
 obtain⟨G,ρ,E,hG,hS,hx,ht,hr⟩:=h
 have hr':RK X.K ad G H ((f ρ).bind fun x=>match x with | .bl true=>g ρ | .bl false=> .ok (.bl false) | _=> .bad) (fun v H'=> ∃ b,v= .bl b/\Q b H') E:=hr
 rcases dH ht with ⟨d,e,ht⟩ | ⟨xs,e,ht⟩ | ⟨c,e⟩
 ·cases d<;>try exact(a9 ht).elim
  rename_i b
  refine⟨G,ρ,E,hG,hS,hx, .inl ⟨b,e⟩, ?_⟩
  rw [e] at hr' ⊢
  intro v G1 H1 st r
  unfold Rep at r;subst r
  refine⟨b,rfl, ?_⟩
  cases b with
  | true=>exact p8 ⟨G1,ρ,E,st.gh,hS.step st,hx,ht,RK.step hr' st⟩
  | false=>
   obtain⟨b',e',q⟩:=hr' (.bl false) G1 H1 st aZ
   cases e'
   exact q0 q
 ·exact(a9 ht).elim
 ·refine⟨G,ρ,E,hG,hS,hx, .inr ⟨c,e⟩, ?_⟩
  rw [e] at hr' ⊢
  exact hr'
theorem aGh {σ:St} {H:Hp} {Q:Bool->Hp->Prop} (h:tT X ad (rOr f g) σ H Q):tOr (tT X ad f) (tT X ad g) σ H Q:=by
 obtain⟨G,ρ,E,hG,hS,hx,ht,hr⟩:=h
 have hr':RK X.K ad G H ((f ρ).bind fun x=>match x with | .bl true=> .ok (.bl true) | .bl false=>g ρ | _=> .bad) (fun v H'=> ∃ b,v= .bl b/\Q b H') E:=hr
 rcases dH ht with ⟨d,e,ht⟩ | ⟨xs,e,ht⟩ | ⟨c,e⟩
 ·cases d<;>try exact(a9 ht).elim
  rename_i b
  refine⟨G,ρ,E,hG,hS,hx, .inl ⟨b,e⟩, ?_⟩
  rw [e] at hr' ⊢
  intro v G1 H1 st r
  unfold Rep at r;subst r
  refine⟨b,rfl, ?_⟩
  cases b with
  | true=>
   obtain⟨b',e',q⟩:=hr' (.bl true) G1 H1 st aZ
   cases e'
   exact p8 q
  | false=>exact q0 ⟨G1,ρ,E,st.gh,hS.step st,hx,ht,RK.step hr' st⟩
 ·exact(a9 ht).elim
 ·refine⟨G,ρ,E,hG,hS,hx, .inr ⟨c,e⟩, ?_⟩
  rw [e] at hr' ⊢
  exact hr'
theorem zC {r:List Expr} (ha:MT X ad a f) (hb:MW X ad (.BoolOp .And (b::r) pos) g):MW X ad (.BoolOp .And (a::b::r) pos) (mW f g):=PW.imp (pw_and ha hb) fun _ _ _ h=>aGg h
theorem aBp {r:List Expr} (ha:MT X ad a f) (hb:MW X ad (.BoolOp .Or (b::r) pos) g):MW X ad (.BoolOp .Or (a::b::r) pos) (rOr f g):=PW.imp (pw_or ha hb) fun _ _ _ h=>aGh h
theorem sA {op:BoolOp} (hb:MT X ad b g):MW X ad (.BoolOp op [b] pos) g:=by
 cases op with
 | And=>exact pw_and1 hb
 | Or=>exact pw_or1 hb
theorem aGi {op:CmpOp} (hu:X.A.units+62<cLine) (ha:ME X ad a f) (hb:ME X ad b g) (hm:behindInMarks op b=false):MT X ad (.Compare a [op] [b] pos) (dQ op f g):=by
 intro pins s σ H Q I ⟨G,ρ,E,hG,hS,hx,ht,hr⟩
 refine wpAny_isTrue_Compare1 (L2.thn (y0 (dU op hu) ha hb I hG hS hx hr) fun v s1 h1=>L2.thn h1 fun u s2 h2=>L2.thn h2 fun c s3 ⟨x,H1,I1,r1,k,e,q⟩=> ?_) hm
 subst e
 cases r1
 exact wpAny_truthy_bool ⟨H1,I1,q⟩
theorem sB {op:CmpOp} {x y:D}:(∃ k,fX op x y= .ok (.bl k))\/fX op x y= .bad:=by
 cases op<;>unfold fX<;>(repeat' split)<;>first | exact .inr rfl | exact .inl ⟨_,rfl⟩
theorem aKd {op:CmpOp} {x y:D} {v w:V} {u z:Value} (hu:X.A.units+62<cLine) (I:Inv X pins σ H s) (hG:Same G H) (rx:Rep X.K ad G x v) (ry:Rep X.K ad G y w) (ru:aP v u) (rz:aP w z) {k:D->R}
  (hr:RK X.K ad G H ((fX op x y).bind k) Q E):wpAny (model X.prog X.w) X.A (compareOp op u z) (fun d s3=> ∃ b G' H',d= .bool b/\Step G H G' H'/\Inv X pins σ H' s3/\RK X.K ad G' H' (k (.bl b)) Q E) X.xe s:=by
 rcases sB (op:=op) (x:=x) (y:=y) with ⟨b,e⟩ | e
 ·rw [e] at hr
  refine L2.thn (dU op hu pins s σ H G x y v w u z (fun q H'=> ∃ G',Step G H G' H'/\q= .bl b) E I hG rx ry ru rz (by rw [e];exact fun q G' H' st r=>⟨G',st,by unfold Rep at r;exact r⟩)) fun d s3 ⟨q,H',I',r',G',st,e1⟩=> ?_
  subst e1
  cases r'
  exact⟨b,G',H',rfl,st,I',RK.step hr st⟩
 ·rw [e] at hr
  exact hr.elim
theorem wJ {op op':CmpOp} (hu:X.A.units+62<cLine) (ha:ME X ad a f) (hb:ME X ad b g) (hc:ME X ad c h) (hm:lastMarks [op,op'] [b,c]=false):ME X ad (.Compare a [op,op'] [b,c] pos) (iW op op' f g h):=by
 intro pins s σ H Q I ⟨G,ρ,E,hG,hS,hx,hr⟩
 refine Compare_chain (L2.thn (ha.thn I hG hS hx hr) fun v s1 ⟨x,d1,G1,H1,I1,r1,st1,q1,k1⟩=>chain_link (L2.thn (hb.thn I1 st1.gh (hS.step st1) hx k1) fun u s2 ⟨y,d2,G2,H2,I2,r2,st2,q2,k2⟩=>
  L2.thn (aKd hu I2 st2.gh (q1.mono st2.sg) q2 r1 r2 k2) fun d s3 ⟨k,G3,H3,e,st3,I3,k3⟩=> ?_)) hm
 subst e
 refine wpAny_truthy_bool ?_
 cases k with
 | false=>exact ite_ff ⟨.bl false,H3,I3,rfl,k3.ok_now st3.gh aZ⟩
 | true=>
  refine ite_tt (chain_last (L2.thn (hc.thn I3 st3.gh (((hS.step st1).step st2).step st3) hx k3) fun w' s4 hz_=> ?_))
  obtain⟨z',d4,G4,H4,I4,r4,st4,q4,k4⟩:=hz_
  exact dU op' hu pins s4 σ H4 G4 d2 d4 y z' u w' Q E I4 st4.gh ((q2.mono st3.sg).mono st4.sg) q4 r2 r4 k4
theorem wK {op op':CmpOp} (hu:X.A.units+62<cLine) (ha:ME X ad a f) (hb:ME X ad b g) (hc:ME X ad c h) (hm:lastMarks [op,op'] [b,c]=false):MT X ad (.Compare a [op,op'] [b,c] pos) (iW op op' f g h):=by
 intro pins s σ H Q I ⟨G,ρ,E,hG,hS,hx,ht,hr⟩
 refine isTrue_chain (L2.thn (ha.thn I hG hS hx hr) fun v s1 ⟨x,d1,G1,H1,I1,r1,st1,q1,k1⟩=>test_link (L2.thn (hb.thn I1 st1.gh (hS.step st1) hx k1) fun u s2 ⟨y,d2,G2,H2,I2,r2,st2,q2,k2⟩=>
  L2.thn (aKd hu I2 st2.gh (q1.mono st2.sg) q2 r1 r2 k2) fun d s3 ⟨k,G3,H3,e,st3,I3,k3⟩=> ?_)) hm
 subst e
 refine wpAny_truthy_bool ?_
 cases k with
 | false=>
  obtain⟨k',e',q'⟩:=k3.ok_now (v:= .bl false) st3.gh aZ
  cases e'
  exact ite_ff ⟨H3,I3,q'⟩
 | true=>
  refine ite_tt (test_last (L2.thn (hc.thn I3 st3.gh (((hS.step st1).step st2).step st3) hx k3) fun w' s4 hz_=> ?_))
  obtain⟨z',d4,G4,H4,I4,r4,st4,q4,k4⟩:=hz_
  refine L2.thn (dU op' hu pins s4 σ H4 G4 d2 d4 y z' u w' _ E I4 st4.gh ((q2.mono st3.sg).mono st4.sg) q4 r2 r4 k4) fun d' s5 hz_=> ?_
  obtain⟨z2,H5,I5,r5,k2,e2,q5⟩:=hz_
  subst e2
  cases r5
  exact wpAny_truthy_bool ⟨H5,I5,q5⟩
theorem wL (hc:MT X ad c h) (ha:ME X ad a f) (hb:ME X ad b g):ME X ad (.IfExp c a b pos) (rIf h f g):=by
 refine PE.imp (vV hc ha hb) ?_
 rintro σ H Q ⟨G,ρ,E,hG,hS,hx,hr⟩
 have hr':RK X.K ad G H ((h ρ).bind fun x=>match x with | .bl true=>f ρ | .bl false=>g ρ | _=> .bad) Q E:=hr
 cases e:h ρ with
 | ok d=>
  rw [e] at hr'
  cases d<;>try exact hr'.elim
  rename_i k
  refine⟨G,ρ,E,hG,hS,hx, .inl ⟨k,e⟩, ?_⟩
  rw [e]
  intro v G1 H1 st r
  unfold Rep at r;subst r
  refine⟨k,rfl, ?_⟩
  cases k with
  | true=>exact p8 (jN hx st hS (RK.step hr' st))
  | false=>exact q0 (jN hx st hS (RK.step hr' st))
 | ow xs=>rw [e] at hr';exact hr'.elim
 | ex k=>
  rw [e] at hr'
  exact⟨G,ρ,E,hG,hS,hx, .inr ⟨k,e⟩,by rw [e];exact hr'⟩
 | bad=>rw [e] at hr';exact hr'.elim
theorem sC:MA X ad [] []:=PA.imp cI fun σ H Q ⟨G,ρ,E,hG,hS,hx,hr⟩=>hr [] G H (Step.refl hG) aE.nil
theorem jO {es:List Expr} {fs:List F} (ha:ME X ad a f) (hr:MA X ad es fs) (hs:starEach (a::es) X.env=(false,eval a X.env)::starEach es X.env):MA X ad (a::es) (f::fs):=by
 refine PA.imp (bU ha hr hs) ?_
 rintro σ H Q ⟨G,ρ,E,hG,hS,hx,hr⟩
 have main: ∀ d,AK X.K ad G H ((args fs ρ).cons d) Q E-> ∀ v G1 H1,Step G H G1 H1->Rep X.K ad G1 d v->tA X ad fs σ H1 fun xs H2=>Q (v::xs) H2:=fun d hk v G1 H1 st r=>by
  refine⟨G1,ρ,E,st.gh,hS.step st,hx, ?_⟩
  cases e:args fs ρ with
  | ok ds=>rw [e] at hk;exact fun vs G2 H2 st2 r2=>hk (v::vs) G2 H2 (st.trans st2) (aE.cons (r.mono st2.sg) r2)
  | ex c=>rw [e] at hk;exact fun G2 H2 st2=>hk G2 H2 (st.trans st2)
  | bad=>rw [e] at hk;exact hk
 refine⟨G,ρ,E,hG,hS,hx, ?_⟩
 unfold args at hr
 cases e:f ρ with
 | ok d=>rw [e] at hr;exact fun v G1 H1 st r=>main d hr v G1 H1 st r
 | ow xs=>
  rw [e] at hr
  intro p vs G1 H1 st n m e' r
  obtain⟨G2,st2,r2⟩:=bB (X:=X) (ad:=ad) st n m e' r
  exact main _ hr _ G2 H1 st2 r2
 | ex c=>rw [e] at hr;exact hr
 | bad=>rw [e] at hr;exact hr
theorem eY {fs:List F} {ρ:Rho} {ds:List D} (h:args fs ρ= .ok ds):ds.length=fs.length:=by
 induction fs generalizing ds with
 | nil=>cases h;rfl
 | cons f fs ih=>
  unfold args at h
  cases e:f ρ with
  | ok d=>
   rw [e] at h
   cases e2:args fs ρ with
   | ok r=>rw [e2] at h;cases h;simp [ih e2]
   | ex c=>rw [e2] at h;cases h
   | bad=>rw [e2] at h;cases h
  | ow d=>
   rw [e] at h
   cases e2:args fs ρ with
   | ok r=>rw [e2] at h;cases h;simp [ih e2]
   | ex c=>rw [e2] at h;cases h
   | bad=>rw [e2] at h;cases h
  | ex c=>rw [e] at h;cases h
  | bad=>rw [e] at h;cases h
theorem jP {fs:List F} {k:List D->R} {σ:St} {H:Hp} {Q:VK} {Q':List V->Hp->Prop} (hG:Same G H) (hS:SL X.K ad G H ρ σ) (hx:XP X ad σ E) (hr:RK X.K ad G H (mG fs ρ k) Q E)
  (q: ∀ vs ds G1 H1,Step G H G1 H1->aE X.K ad G1 ds vs->ds.length=fs.length->RK X.K ad G1 H1 (k ds) Q E->Q' vs H1):tA X ad fs σ H Q':=by
 refine⟨G,ρ,E,hG,hS,hx, ?_⟩
 unfold mG at hr
 cases e:args fs ρ with
 | ok ds=>rw [e] at hr;exact fun vs G1 H1 st r=>q vs ds G1 H1 st r (eY e) (RK.step hr st)
 | ex c=>rw [e] at hr;exact hr
 | bad=>rw [e] at hr;exact hr
theorem aGj {es:List Expr} {fs:List F} {j:Nat} (ha:MA X ad es fs) (hl:fs.length<=1000):ME X ad (.Tuple es j pos) (bS fs):=by
 refine PE.imp (aFp ha) ?_
 rintro σ H Q ⟨G,ρ,E,hG,hS,hx,hr⟩
 refine⟨G,ρ,E,hG,hS,hx, ?_⟩
 have hr':RK X.K ad G H ((args fs ρ).then fun xs=> .ok (.tup xs)) Q E:=hr
 cases e:args fs ρ with
 | ok ds=>
  rw [e] at hr'
  intro vs G1 H1 st r
  refine⟨?_,fun p hp=>(RK.step hr' st).tup_new st.gh r hp⟩
  have:=r.length
  rw [this,eY e]
  exact Nat.le_trans hl (by decide)
 | ex c=>rw [e] at hr';exact hr'
 | bad=>rw [e] at hr';exact hr'
theorem zD {es:List Expr} {fs:List F} (ha:MA X ad es fs) (hl:fs.length<=1000):ME X ad (.List es pos) (cJ fs):=by
 refine PE.imp (n9 ha) ?_
 rintro σ H Q ⟨G,ρ,E,hG,hS,hx,hr⟩
 refine⟨G,ρ,E,hG,hS,hx, ?_⟩
 have hr':RK X.K ad G H ((args fs ρ).then fun xs=> .ow xs) Q E:=hr
 cases e:args fs ρ with
 | ok ds=>
  rw [e] at hr'
  intro vs G1 H1 st r
  refine⟨?_,fun p hp=>(RK.step hr' st).ow_new st.gh r hp⟩
  have:=r.length
  rw [this,eY e]
  exact Nat.le_trans hl (by decide)
 | ex c=>rw [e] at hr';exact hr'
 | bad=>rw [e] at hr';exact hr'
def Seq (X:Cx) (ad:Ad) (G H:Hp) (x:D) (v:V):Prop:=Rep X.K ad G x v\/ ∃ a vs ds,x= .lst ds/\v= .ref a/\G a=none/\H a=some (.lst vs)/\aE X.K ad G ds vs
theorem Seq.step {G1 H1:Hp} {x:D} {v:V} (q:Seq X ad G H x v) (st:Step G H G1 H1):Seq X ad G1 H1 x v:=by
 rcases q with q | ⟨a,vs,ds,e1,e2,h1,h2,h3⟩
 ·exact .inl (q.mono st.sg)
 ·refine .inr ⟨a,vs,ds,e1,e2, ?_,st.sh _ _ h2,h3.mono st.sg⟩
  cases z:G1 a with
  | none=>rfl
  | some o=>
   have:=st.nw a h1 (by rw [z];exact fun z=>nomatch z)
   rw [h2] at this
   cases this
theorem Seq.items {x:D} {v:V} {ds:List D} (q:Seq X ad G H x v) (hG:Same G H) (e:items x=some ds): ∃ a vs,v= .ref a/\(x= .tup ds/\SqT X.K H a vs\/x= .lst ds/\SqL X.K H a vs)/\aE X.K ad G ds vs:=by
 rcases q with q | ⟨a,vs,ds',e1,e2,h1,h2,h3⟩
 ·cases x with
  | tup _=>cases e;unfold Rep at q;obtain⟨a,vs,h1,h2,h3⟩:=q;exact⟨a,vs,h1, .inl ⟨rfl,hG.seqT h2⟩,h3⟩
  | lst _=>cases e;unfold Rep at q;obtain⟨a,vs,h1,h2,h3⟩:=q;exact⟨a,vs,h1, .inr ⟨rfl,hG.seq h2⟩,h3⟩
  | _=>cases e
 ·subst e1
  cases e
  exact⟨a,vs,e2, .inr ⟨rfl,SqL.of h2⟩,h3⟩
theorem zE (n:Nat) (i:Int):ixD n i=L2.ixN n i:=rfl
theorem aGk (ha:MLk X ad a f) (hb:ME X ad b g) (hs:rP b):ME X ad (.Subscript a b pos) (rIx f g):=by
 intro pins s σ H Q I ⟨G,ρ,E,hG,hS,hx,hr⟩
 refine Subscript_ (L2.thn (ha pins s σ H G ρ _ Q E I hG hS hx hr) fun v s1 hz_=> ?_)
 obtain⟨x,d1,G1,H1,I1,r1,st1,q1,k1⟩:=hz_
 refine L2.thn (hb.thn I1 st1.gh (hS.step st1) hx k1) fun u s2 hz_=> ?_
 obtain⟨y,d2,G2,H2,I2,r2,st2,q2,k2⟩:=hz_
 have q1':Seq X ad G2 H2 d1 x:=Seq.step (X:=X) (ad:=ad) q1 st2
 unfold dIx at k2
 cases e:items d1 with
 | none=>rw [e] at k2;exact k2.elim
 | some ds=>
  rw [e] at k2
  cases d2<;>try exact k2.elim
  rename_i i
  unfold Rep at q2;subst q2
  obtain⟨p,vs,rfl,hq,rq⟩:=q1'.items st2.gh e
  have hr2:RK X.K ad G2 H2 (match(ixD ds.length i).bind fun j=>ds[j]? with | some d=> .ok d | none=> .bad) Q E:=k2
  cases e3:(ixD ds.length i).bind fun j=>ds[j]? with
  | none=>rw [e3] at hr2;exact hr2.elim
  | some d=>
   rw [e3] at hr2
   obtain⟨j,e4,e5⟩:=zBd e3
   obtain⟨w,e6,r6⟩:=rq.get e5
   have hat:atI vs i=some w:=by
    unfold atI
    rw [rq.length, <-zE,e4]
    exact e6
   rcases hq with ⟨_,hq⟩ | ⟨_,hq⟩
   ·exact aFs a b pins s2 σ H2 _ _ v u Q I2 r1 r2 ⟨p,vs,i,w,rfl,rfl,hq,hat,hr2.ok_now st2.gh r6⟩ (hs _ _)
   ·exact aA2 a b pins s2 σ H2 _ _ v u Q I2 r1 r2 ⟨p,vs,i,w,rfl,rfl,hq,hat,hr2.ok_now st2.gh r6⟩ (hs _ _)
theorem eP {prog:Program} {w:World} {A:Around} {Ex:Value->Shared->Prop} {s:Shared} {t sl:Addr} {items:Array Value} {vl vu:Value} {lo hi:Option Int} {Q:Value->Shared->Prop} (ht:IsTup s.heap t items) (hs:s.heap.IsSliceOf sl vl vu .none)
  (pl:IsPart vl lo) (pu:IsPart vu hi) (hw:HT.sIx items.size 0 lo=0/\HT.sIx items.size items.size hi=items.size) (h:Q (.ref t) s) (hsz:items.size<=sizeLine):wpAny (model prog w) A (getItem (.ref t) (.ref sl)) Q Ex s:=by
 obtain⟨os,hos,hcs,hds⟩:=id hs
 have ts:s.TypeIs (.ref sl) "slice":=⟨os,hos,hcs⟩
 unfold getItem
 try with_reducible refine wpAny_holding ?_
 first | refine ae (af ?_) | skip
 refine ae (wpAny_sequenceKey ht.typeIs (by decide) ?_)
 refine ae (wpAny_callSpecial?_slot (name:=Str.ofString "__getitem__") ht.typeIs PyProof.Rows.slot_tuple_getitem
  (wpAny_call_entry PyProof.Rows.slot_tuple_getitem ht.typeIs entry_tuple_getitem ?_ (args_tuple_getitem _ _)))
 show wpAny _ _ (Builtin.Tuple.tupleItemsOf (.ref t) >>= _) _ _ s
 refine ae (tupleItemsOf_ ht ?_)
 refine ae (wpAny_typeOf ts ?_)
 rw [if_pos (by decide)]
 refine ae (HT.sliceApplied_gen hs pl pu ?_)
 have yes:(((HT.sIx items.size 0 lo:Nat):Int)==0&&(1:Int)==1&&(HT.sIx items.size items.size hi - HT.sIx items.size 0 lo)==items.size)=true:=by
  rw [hw.1,hw.2]
  simp
 show wpAny _ _ (if(((HT.sIx items.size 0 lo:Nat):Int)==0&&(1:Int)==1&&(HT.sIx items.size items.size hi - HT.sIx items.size 0 lo)==items.size)=true then _ else _) _ _ s
 rw [if_pos yes]
 unfold Builtin.Tuple.tupleIsExact
 refine ae (m:=(do let z<-typeOf (.ref t);return z== .type "tuple")) (ae (wpAny_typeOf ht.typeIs (af ?_)))
 rw [if_pos (by decide)]
 first
  | exact ae (wpAny_rule (ae (af (af ⟨_,rfl,af h⟩))))
  | exact ae (wpAny_rule (af ⟨_,rfl,af h⟩))
  | exact ae (ae (wpAny_rule (af (af ⟨_,rfl,af h⟩))))
  | skip
theorem oO: ∀ {ds:List D} {vs:List V} (lo hi:Option Int),aE X.K ad G ds vs->aE X.K ad G (wC ds lo hi) (oC vs lo hi):=by
 intro ds vs lo hi r
 unfold wC oC
 rw [r.length]
 exact(r.drop _).take _
theorem aGl:SlR X (fun x lo hi H Q=> ∃ a vs,x= .ref a/\((SqT X.K H a vs/\(HT.sIx vs.length 0 lo=0/\HT.sIx vs.length vs.length hi=vs.length->Q (.ref a) H)/\ ∀ p,H p=none->Q (.ref p) (upd H p (.tup (oC vs lo hi))))\/
  (SqL X.K H a vs/\ ∀ p,H p=none->Q (.ref p) (upd H p (.lst (oC vs lo hi)))))):=by
 intro pins s σ H x v vl vu lo hi sl Q I rx hs pl pu q
 obtain⟨a,vs,rfl,⟨hq,q1,q2⟩ | ⟨hq,q⟩⟩:=q
 ·by_cases hw:HT.sIx vs.length 0 lo=0/\HT.sIx vs.length vs.length hi=vs.length
  ·cases rx
   obtain⟨its,r,ht,hz⟩:=I.tuple hq
   have hlen:its.toArray.size=vs.length:=by rw [ax];exact r.length.symm
   refine⟨"tuple",_,PyProof.Rows.slot_tuple_getitem.lookup,ht.typeIs, ?_⟩
   refine eP ht hs pl pu (by rw [hlen];exact hw) ⟨.ref a,H,I,rfl,q1 hw⟩ (by rw [hlen];exact hz)
  ·exact aFr pins s σ H _ v vl vu lo hi sl Q I rx hs pl pu ⟨a,vs,rfl,hq,hw,q2⟩
 ·exact aA3 pins s σ H _ v vl vu lo hi sl Q I rx hs pl pu ⟨a,vs,rfl,hq,q⟩
theorem oP {x:D} {v:V} {lo hi:Option Int} (q:Seq X ad G H x v) (hG:Same G H) (hr:RK X.K ad G H (aFv x lo hi) Q E):
  ∃ a vs,v= .ref a/\((SqT X.K H a vs/\(HT.sIx vs.length 0 lo=0/\HT.sIx vs.length vs.length hi=vs.length->Q (.ref a) H)/\ ∀ p,H p=none->Q (.ref p) (upd H p (.tup (oC vs lo hi))))\/(SqL X.K H a vs/\ ∀ p,H p=none->Q (.ref p) (upd H p (.lst (oC vs lo hi))))):=by
 cases x with
 | tup ds=>
  rcases q with q | ⟨_,_,_,z,_⟩
  ·unfold Rep at q
   obtain⟨a,vs,rfl,hq,rq⟩:=q
   refine⟨a,vs,rfl, .inl ⟨hG.seqT hq,fun e=> ?_,fun p hp=>RK.tup_new (xs:=wC ds lo hi) hr hG (oO lo hi rq) hp⟩⟩
   refine RK.ok_now (d:= .tup (wC ds lo hi)) hr hG ?_
   have e':wC ds lo hi=ds:=by
    rw [rq.length] at e
    have e1:rV ds.length 0 lo=0:=e.1
    have e2:rV ds.length ds.length hi=ds.length:=e.2
    unfold wC
    rw [e1,e2]
    simp
   rw [e']
   unfold Rep
   exact⟨a,vs,rfl,hq,rq⟩
  ·cases z
 | lst ds=>
  obtain⟨a,vs,rfl,hq,rq⟩:=q.items hG (rfl:items (.lst ds)=some ds)
  rcases hq with ⟨z,_⟩ | ⟨_,hq⟩
  ·cases z
  ·exact⟨a,vs,rfl, .inr ⟨hq,fun p hp=>RK.ow_new (xs:=wC ds lo hi) hr hG (oO lo hi rq) hp⟩⟩
 | _=>exact ba hr
theorem aGm {l u:Option Expr} {fl fu:Option F} {p2:Pos} (ha:MLk X ad a f) (hl:match l,fl with | none,none=>True | some e,some k=>ME X ad e k | _,_=>False) (hu:match u,fu with | none,none=>True | some e,some k=>ME X ad e k | _,_=>False):
  ME X ad (.Subscript a (.Slice l u none p2) pos) (aJx f fl fu):=by
 intro pins s σ H Q I ⟨G,ρ,E,hG,hS,hx,hr⟩
 -- the value first
 have key: ∀ (k:D->R),RK X.K ad G H ((f ρ).bind k) Q E->(∀ (pins:List (Addr×Obj)) (s1:Shared) (x:V) (d:D) (G1 H1:Hp),Inv X pins σ H1 s1->Step G H G1 H1->Seq X ad G1 H1 d x->RK X.K ad G1 H1 (k d) Q E->
   wpAny (model X.prog X.w) X.A (evalPart l X.env) (fun vl s2=>wpAny (model X.prog X.w) X.A (evalPart u X.env) (fun vu s3=> ∃ lo hi H3,Inv X pins σ H3 s3/\IsPart vl lo/\IsPart vu hi/\
    ∃ a vs,x= .ref a/\((SqT X.K H3 a vs/\(HT.sIx vs.length 0 lo=0/\HT.sIx vs.length vs.length hi=vs.length->Q (.ref a) H3)/\ ∀ p,H3 p=none->Q (.ref p) (upd H3 p (.tup (oC vs lo hi))))\/(SqL X.K H3 a vs/\ ∀ p,H3 p=none->Q (.ref p) (upd H3 p (.lst (oC vs lo hi)))))) X.xe s2) X.xe s1)->
   wpAny (model X.prog X.w) X.A (eval (.Subscript a (.Slice l u none p2) pos) X.env) (EP X pins σ Q) X.xe s:=fun k hk go=>by
  refine Subscript_ (L2.thn (ha pins s σ H G ρ k Q E I hG hS hx hk) fun v s1 hz_=> ?_)
  obtain⟨x,d1,G1,H1,I1,r1,st1,q1,k1⟩:=hz_
  refine wpAny_Slice (L2.thn (go pins s1 x d1 G1 H1 I1 st1 q1 k1) fun vl s2 h2=>L2.thn h2 fun vu s3 hz_=> ?_)
  obtain⟨lo,hi,H3,I3,pl,pu,q3⟩:=hz_
  rw [evalPart_none]
  refine af ?_
  have I4:Inv X pins σ H3 { s3 with heap:=s3.heap.push { cls:= .type "slice",data:= .fields #[vl,vu, .none] } }:=I3.kept (t':=s3.toks) fun b ob q=>ag _ q
  obtain⟨T,id,hT,ht,hg⟩:=aGl pins { s3 with heap:=s3.heap.push { cls:= .type "slice",data:= .fields #[vl,vu, .none] } } σ H3 x v vl vu lo hi s3.heap.objs.size Q I4 r1 (Heap.IsSliceOf.new ..) pl pu q3
  show wpAny (model X.prog X.w) X.A (subscriptTail a (.Slice l u none p2) v (.ref s3.heap.objs.size)) (EP X pins σ Q) X.xe { s3 with heap:=s3.heap.push { cls:= .type "slice",data:= .fields #[vl,vu, .none] } }
  exact tail_any (ops:=[.ref s3.heap.objs.size,v]) ht hT hg (by with_unfolding_all rfl)
 unfold aJx at hr
 refine key _ hr fun pins s1 x d G1 H1 I1 st1 q1 k1=> ?_
 cases l with
 | none=>
  cases fl with
  | some _=>exact hl.elim
  | none=>
   rw [evalPart_none]
   refine af ?_
   cases u with
   | none=>
    cases fu with
    | some _=>exact hu.elim
    | none=>
     rw [evalPart_none]
     exact af ⟨none,none,H1,I1, .none, .none,oP q1 st1.gh k1⟩
   | some e=>
    cases fu with
    | none=>exact hu.elim
    | some k=>
     rw [evalPart_some]
     refine L2.thn (ME.thn hu I1 st1.gh (hS.step st1) hx k1) fun vu s2 hz_=> ?_
     obtain⟨y,d2,G2,H2,I2,r2,st2,q2,k2⟩:=hz_
     cases d2<;>try exact ba k2
     rename_i j
     unfold Rep at q2;subst q2
     obtain⟨t,rfl⟩:=r2
     exact⟨none,some j,H2,I2, .none, .int j t,oP (Seq.step q1 st2) st2.gh k2⟩
 | some e=>
  cases fl with
  | none=>exact hl.elim
  | some k=>
   cases u with
   | none=>
    cases fu with
    | some _=>exact hu.elim
    | none=>
     rw [evalPart_some]
     refine L2.thn (ME.thn hl I1 st1.gh (hS.step st1) hx k1) fun vu s2 hz_=> ?_
     obtain⟨y,d2,G2,H2,I2,r2,st2,q2,k2⟩:=hz_
     cases d2<;>try exact ba k2
     rename_i j
     unfold Rep at q2;subst q2
     obtain⟨t,rfl⟩:=r2
     rw [evalPart_none]
     exact af ⟨some j,none,H2,I2, .int j t, .none,oP (Seq.step q1 st2) st2.gh k2⟩
   | some e'=>
    cases fu with
    | none=>exact hu.elim
    | some k'=>
     rw [evalPart_some]
     refine L2.thn (ME.thn hl I1 st1.gh (hS.step st1) hx k1) fun vu s2 hz_=> ?_
     obtain⟨y,d2,G2,H2,I2,r2,st2,q2,k2⟩:=hz_
     cases d2<;>try exact ba k2
     rename_i j
     unfold Rep at q2;subst q2
     obtain⟨t,rfl⟩:=r2
     rw [evalPart_some]
     refine L2.thn (ME.thn hu I2 st2.gh ((hS.step st1).step st2) hx k2) fun vu s3 hz_=> ?_
     obtain⟨y3,d3,G3,H3,I3,r3,st3,q3,k3⟩:=hz_
     cases d3<;>try exact ba k3
     rename_i j'
     unfold Rep at q3;subst q3
     obtain⟨t',rfl⟩:=r3
     exact⟨some j,some j',H3,I3, .int j t, .int j' t',oP (Seq.step (Seq.step q1 st2) st3) st3.gh k3⟩
end
section
variable {X:Cx} {ad:Ad} {pins:List (Addr×Obj)} {s:Shared} {σ:St} {H G:Hp} {ρ:Rho} {Q:VK} {E:Nat->Hp->Prop} {pos p:Pos} {a b c:Expr} {f g h:F}
theorem RK.impE {K:PySem.W.Frag} {r:R} {E E':Nat->Hp->Prop} (h:RK K ad G H r Q E) (k: ∀ c H',E c H'->E' c H'):RK K ad G H r Q E':=by
 cases r with
 | ok d=>exact h
 | ow xs=>exact h
 | ex c=>exact fun G' H' st=>k c H' (h G' H' st)
 | bad=>exact h
def LK (X:Cx) (ad:Ad) (G H:Hp) (r:R) (Q:VK) (E:Nat->Hp->Prop):Prop:=match r with
 | .ok d=> ∀ v G' H',Step G H G' H'->Seq X ad G' H' d v->Q v H'
 | .ow xs=> ∀ p vs G' H',Step G H G' H'->H p=none->G' p=none->H' p=some (.lst vs)->aE X.K ad G' xs vs->Q (.ref p) H'
 | .ex c=> ∀ G' H',Step G H G' H'->E c H'
 | .bad=>False
noncomputable def tL (X:Cx) (ad:Ad) (f:F):TE:=fun σ H Q=> ∃ G ρ E,Same G H/\SL X.K ad G H ρ σ/\XP X ad σ E/\LK X ad G H (f ρ) Q E
abbrev ML (X:Cx) (ad:Ad) (e:Expr) (f:F):Prop:=PE X e (tL X ad f)
theorem LK.rk {r:R} (h:LK X ad G H r Q E):RK X.K ad G H r Q E:=by
 cases r with
 | ok d=>exact fun v G' H' st q=>h v G' H' st (.inl q)
 | ow xs=>exact h
 | ex c=>exact h
 | bad=>exact h
theorem ME.ml (ha:ME X ad a f):ML X ad a f:=PE.imp ha fun σ H Q ⟨G,ρ,E,hG,hS,hx,hr⟩=>⟨G,ρ,E,hG,hS,hx,hr.rk⟩
theorem sD {i:Nat} {x:Str} (hN:X.N[i]? =some x) (hv:Vis X.env.scope x) (hd:(x==("__debug__":Str))=false) (hcd:(x==("__classdict__":Str))=false):ML X ad (.Name x pos) (aW i):=by
 intro pins s σ H Q I ⟨G,ρ,E,hG,hS,hx,hr⟩
 unfold aW at hr
 cases e:ρ[i]? with
 | none=>
  rw [e] at hr
  exact hr.elim
 | some sl=>
  rw [e] at hr
  cases sl with
  | no=>exact hr.elim
  | dc kvs=>exact hr.elim
  | sd kvs=>exact hr.elim
  | rk _ _=>exact hr.elim
  | ow xs=>
   obtain⟨p,vs,h1,h2,h3,h4⟩:=hS.ow e
   exact aV hN hv hd hcd pins s σ H Q I ⟨.ref p,h1,hr (.ref p) G H (Step.refl hG) (.inr ⟨p,vs,xs,rfl,rfl,h2,h3,h4⟩)⟩
  | sh d=>
   obtain⟨w,h1,h2⟩:=hS.sh e
   exact aV hN hv hd hcd pins s σ H Q I ⟨w,h1,hr w G H (Step.refl hG) (.inl h2)⟩
theorem ML.lk (ha:ML X ad a f):MLk X ad a f:=by
 intro pins s σ H G ρ k Q E I hG hS hx hr
 cases e:f ρ with
 | ok d=>
  rw [e] at hr
  refine L2.thn (ha pins s σ H (fun v H1=> ∃ G1,Step G H G1 H1/\Seq X ad G1 H1 d v) I ⟨G,ρ,E,hG,hS,hx,by rw [e];exact fun v G1 H1 st q=>⟨G1,st,q⟩⟩) fun u s1 ⟨v,H1,I1,r1,G1,st,q⟩=> ?_
  exact⟨v,d,G1,H1,I1,r1,st,q,RK.step hr st⟩
 | ow xs=>
  rw [e] at hr
  refine L2.thn (ha pins s σ H (fun v H1=> ∃ G1,Step G H G1 H1/\Rep X.K ad G1 (.lst xs) v) I ⟨G,ρ,E,hG,hS,hx,by rw [e];exact fun p vs G1 H1 st n m e' q=>bB st n m e' q⟩) fun u s1 ⟨v,H1,I1,r1,G1,st,q⟩=> ?_
  exact⟨v, .lst xs,G1,H1,I1,r1,st, .inl q,RK.step hr st⟩
 | ex c=>
  rw [e] at hr
  refine L2.thn (ha pins s σ H (fun v H1=>False) I ⟨G,ρ,E,hG,hS,hx,by rw [e];exact hr⟩) fun u s1 ⟨v,H1,I1,r1,q⟩=>q.elim
 | bad=>
  rw [e] at hr
  exact ba hr
theorem sE {k:D->R} {σ:St} {H:Hp} {Q Q':VK} (hG:Same G H) (hS:SL X.K ad G H ρ σ) (hx:XP X ad σ E) (hr:RK X.K ad G H ((f ρ).bind k) Q E)
  (q: ∀ v d G1 H1,Step G H G1 H1->Seq X ad G1 H1 d v->RK X.K ad G1 H1 (k d) Q E->Q' v H1):tL X ad f σ H Q':=by
 refine⟨G,ρ,E,hG,hS,hx, ?_⟩
 cases e:f ρ with
 | ok d=>
  rw [e] at hr
  exact fun v G1 H1 st r=>q v d G1 H1 st r (RK.step hr st)
 | ow xs=>
  rw [e] at hr
  intro p vs G1 H1 st n m e' r
  obtain⟨G2,st2,r2⟩:=bB (X:=X) (ad:=ad) st n m e' r
  exact q _ _ G2 H1 st2 (.inl r2) (RK.step hr st2)
 | ex c=>
  rw [e] at hr
  exact hr
 | bad=>
  rw [e] at hr
  exact hr
theorem jQ {k:List D->R}:mG [f] ρ k=(f ρ).bind fun x=>k [x]:=by
 unfold mG args
 cases f ρ<;>rfl
def BOp (X:Cx) (ad:Ad) (fv:Value) (r:Fn):Prop:=
 ∀ (pins:List (Addr×Obj)) (s:Shared) (σ:St) (H G:Hp) (x:D) (v:V) (u:Value) (Q:VK) (E:Nat->Hp->Prop),Inv X pins σ H s->Same G H->Seq X ad G H x v->aP v u->RK X.K ad G H (r [x]) Q E->
  wpAny (model X.prog X.w) X.A (call fv [u]) (EP X pins σ Q) X.xe s
theorem jR {x:Str} {id:String} {r:Fn} (ho:BOp X ad (.builtin id) r) (hg:L2.Gl X x) (hm:X.mg x=none) (hv:bootBuiltins x=some (.builtin id)) (ha:ML X ad a f) (hn:x≠"__name__") (hdb:(x==("__debug__":Str))=false)
  (he:starEach [a] X.env=(false,eval a X.env)::starEach [] X.env):ME X ad (.Call (.Name x p) [a] [] pos) (aH r [f]):=by
 intro pins s σ H Q I ⟨G,ρ,E,hG,hS,hx,hr⟩
 refine wpAny_Call_Name_kw (gN I hg hm hv ?_ hn hdb)
 unfold aH at hr
 rw [jQ] at hr
 refine PyProof.Rows.callWith_builtin1 (L2.thn (bU ha cI he pos pins s σ H (fun vs H1=> ∃ v d G1,vs=[v]/\Step G H G1 H1/\Seq X ad G1 H1 d v/\RK X.K ad G1 H1 (r [d]) Q E) I ?_) fun us s1 ⟨vs,H1,I1,r1,v,d,G1,e1,st,q,k⟩=> ?_) he rfl
 ·exact sE hG hS hx hr fun v d G1 H1 st q k=>⟨v,d,G1,rfl,st,q,k⟩
 ·subst e1
  obtain⟨u,rfl,ru⟩:=kN r1
  exact ho pins s1 σ H1 G1 d v u Q E I1 st.gh q ru k
theorem sF {x:Str} {T:String} {r:Fn} (ho:BOp X ad (.type T) r) (hg:L2.Gl X x) (hm:X.mg x=none) (hv:bootBuiltins x=some (.type T)) (ha:ML X ad a f) (hn:x≠"__name__") (hdb:(x==("__debug__":Str))=false)
  (he:starEach [a] X.env=(false,eval a X.env)::starEach [] X.env):ME X ad (.Call (.Name x p) [a] [] pos) (aH r [f]):=by
 intro pins s σ H Q I ⟨G,ρ,E,hG,hS,hx,hr⟩
 refine wpAny_Call_Name_kw (gN I hg hm hv ?_ hn hdb)
 unfold aH at hr
 rw [jQ] at hr
 refine PyProof.Rows.callWith_type1 (L2.thn (bU ha cI he pos pins s σ H (fun vs H1=> ∃ v d G1,vs=[v]/\Step G H G1 H1/\Seq X ad G1 H1 d v/\RK X.K ad G1 H1 (r [d]) Q E) I ?_) fun us s1 ⟨vs,H1,I1,r1,v,d,G1,e1,st,q,k⟩=> ?_) he rfl
 ·exact sE hG hS hx hr fun v d G1 H1 st q k=>⟨v,d,G1,rfl,st,q,k⟩
 ·subst e1
  obtain⟨u,rfl,ru⟩:=kN r1
  exact ho pins s1 σ H1 G1 d v u Q E I1 st.gh q ru k
theorem sH:BOp X ad (.builtin "len") q9:=by
 intro pins s σ H G x v u Q E I hG q ru hr
 have hr':RK X.K ad G H (match items x with | some xs=> .ok (.int xs.length) | none=>aLs x) Q E:=hr
 cases e:items x with
 | none=>
  rw [e] at hr'
  cases x with
  | str z=>
   have hr2:RK X.K ad G H (if z.length<=100000 then .ok (.int z.length) else .bad) Q E:=hr'
   by_cases hl:z.length<=100000
   ·rw [if_pos hl] at hr2
    rcases q with q | ⟨_,_,_,y,_⟩
    ·unfold Rep at q;subst q
     exact kY pins s σ H _ [u] Q I (.cons ru .nil) ⟨_,rfl,Nat.le_trans hl (by decide),hr2.ok_now hG aO⟩
    ·cases y
   ·rw [if_neg hl] at hr2;exact hr2.elim
  | _=>exact ba hr'
 | some ds=>
  rw [e] at hr'
  obtain⟨p,vs,rfl,hq,rq⟩:=q.items hG e
  have hq':SqL X.K H p vs\/SqT X.K H p vs:=hq.elim (fun z=> .inr z.2) fun z=> .inl z.2
  refine kX pins s σ H [.ref p] [u] Q I (.cons ru .nil) ⟨p,vs,rfl,hq', ?_⟩
  rw [rq.length]
  exact hr'.ok_now hG aO
theorem aBq:BOp X ad (.type "int") aLt:=by
 intro pins s σ H G x v u Q E I hG q ru hr
 cases x<;>try exact ba hr
 ·rcases q with q | ⟨_,_,_,z,_⟩
  ·unfold Rep at q;subst q
   exact kO pins s σ H _ [u] Q I (.cons ru .nil) (.inr ⟨_,rfl,hr.ok_now hG aO⟩)
  ·cases z
 ·rcases q with q | ⟨_,_,_,z,_⟩
  ·unfold Rep at q;subst q
   exact kO pins s σ H _ [u] Q I (.cons ru .nil) (.inl ⟨_,rfl,hr.ok_now hG aO⟩)
  ·cases z
theorem wM:BOp X ad (.type "list") aFy:=by
 intro pins s σ H G x v u Q E I hG q ru hr
 have hr':RK X.K ad G H (match items x with | some xs=> .ow xs | none=> .bad) Q E:=hr
 cases e:items x with
 | none=>rw [e] at hr';exact hr'.elim
 | some ds=>
  rw [e] at hr'
  obtain⟨p,vs,rfl,hq,rq⟩:=q.items hG e
  have hq':SqL X.K H p vs\/SqT X.K H p vs:=hq.elim (fun z=> .inr z.2) fun z=> .inl z.2
  exact kZ pins s σ H [.ref p] [u] Q I (.cons ru .nil) ⟨p,vs,rfl,hq',fun l hl=>hr'.ow_new hG rq hl⟩
theorem sI:BOp X ad (.type "tuple") iX:=by
 intro pins s σ H G x v u Q E I hG q ru hr
 have hr':RK X.K ad G H (match items x with | some xs=> .ok (.tup xs) | none=> .bad) Q E:=hr
 cases e:items x with
 | none=>rw [e] at hr';exact hr'.elim
 | some ds=>
  rw [e] at hr'
  obtain⟨p,vs,rfl,hq,rq⟩:=q.items hG e
  rcases hq with ⟨e2,hq⟩ | ⟨e2,hq⟩
  ·refine eU pins s σ H [.ref p] [u] Q I (.cons ru .nil) ⟨p,vs,rfl, .inr ⟨hq,hr'.ok_now hG ?_⟩⟩
   rcases q with q | ⟨_,_,_,z,_⟩
   ·rw [e2] at q;exact q
   ·rw [e2] at z;cases z
  ·exact eU pins s σ H [.ref p] [u] Q I (.cons ru .nil) ⟨p,vs,rfl, .inl ⟨hq,fun l hl=>hr'.tup_new hG rq hl⟩⟩
theorem lO: ∀ {ds:List D} {ns:List Int} {vs:List V},eA ds=some ns->aE X.K ad G ds vs->vs=ns.map V.int
 | [],ns,vs,e,r=>by
  cases e
  unfold aE at r
  exact r
 | d::ds,ns,vs,e,r=>by
  cases d<;>try (unfold eA at e;cases e)
  rename_i i
  unfold eA at e
  obtain⟨ms,e1,e2⟩:=zMd e
  subst e2
  unfold aE at r
  obtain⟨v,r',rfl,r1,r2⟩:=r
  unfold Rep at r1
  subst r1
  rw [lO e1 r2]
  rfl
theorem i5: ∀ {ds:List D} {ns:List Bool} {vs:List V},eX ds=some ns->aE X.K ad G ds vs->vs=ns.map V.bl
 | [],ns,vs,e,r=>by
  cases e
  unfold aE at r
  exact r
 | d::ds,ns,vs,e,r=>by
  cases d<;>try (unfold eX at e;cases e)
  rename_i i
  unfold eX at e
  obtain⟨ms,e1,e2⟩:=zMd e
  subst e2
  unfold aE at r
  obtain⟨v,r',rfl,r1,r2⟩:=r
  unfold Rep at r1
  subst r1
  rw [i5 e1 r2]
  rfl
theorem oQ {A:Around} (hh:A.handled=none) (I:Inv X pins σ H s) {p:Addr} {vs:List V} (hq:SqL X.K H p vs\/SqT X.K H p vs) {Ex:Value->Shared->Prop} {Q':Value->Shared->Prop}
  (k: ∀ (its:List Value) (s2:Shared) (I':Addr) (fp wr:List Addr) (Stt:Nat->Heap->Prop),aS vs its->Walks X.prog X.w A I' fp wr its.length (fun i v=>its[i]? =some v) Stt->Stt 0 s2.heap->(∀ b∈fp,b<s2.heap.objs.size)->s2.os=s.os->s2.gens=s.gens->s2.drawn=s.drawn->
   (∀ b o,s.heap.get? b=some o->b∉wr)->(∀ b o,s.heap.get? b=some o->s2.heap.get? b=some o)->Q' (.ref I') s2):wpAny (model X.prog X.w) A (pyIter (.ref p)) Q' Ex s:=by
 rcases hq with hq | hq
 ·obtain⟨its,rv,pl,_⟩:=I.list hq
  have hlt:p<s.heap.objs.size:=by obtain⟨o,n,e,_⟩:=pl;exact ai e
  refine wpAny_pyIter_list pl.isList (k its _ s.heap.objs.size [s.heap.objs.size,p] [s.heap.objs.size] (fun i h=>h.IsListIter s.heap.objs.size p i/\h.IsList p its.toArray) rv ?_ (And.intro ⟨_,ah _ rfl,rfl,rfl⟩ ?_) ?_ rfl rfl rfl ?_ ?_)
  ·have W:=Walks.list (prog:=X.prog) (w:=X.w) hh s.heap.objs.size p (bj hlt) its.toArray
   simpa using W
  ·obtain⟨o,n,e,c,d⟩:=pl
   exact⟨o,ag _ e,c,n,d.2⟩
  ·intro b hb
   rcases av.mp hb with rfl | hb
   ·rw [aj];exact Nat.lt_succ_self _
   ·have:b=p:=by simpa using hb
    subst this
    rw [aj];exact Nat.lt_succ_of_lt hlt
  ·intro b o e hb
   have:b=s.heap.objs.size:=by simpa using hb
   subst this
   exact absurd (ai e) (Nat.lt_irrefl _)
  ·exact fun b o e=>ag _ e
 ·obtain⟨its,rv,pl,_⟩:=I.tuple hq
  have hlt:p<s.heap.objs.size:=pl.lt
  refine wpAny_pyIter_tuple (show s.heap.IsTuple p its.toArray from pl) (k its _ s.heap.objs.size [s.heap.objs.size,p] [s.heap.objs.size] (fun i h=>h.IsTupleIter s.heap.objs.size p i/\h.IsTuple p its.toArray) rv ?_ (And.intro ⟨_,ah _ rfl,rfl,rfl⟩ ?_) ?_ rfl rfl rfl ?_ ?_)
  ·have W:=Walks.tuple (prog:=X.prog) (w:=X.w) hh s.heap.objs.size p (bj hlt) its.toArray
   simpa using W
  ·obtain⟨o,e,c⟩:=pl
   exact⟨o,ag _ e,c⟩
  ·intro b hb
   rcases av.mp hb with rfl | hb
   ·rw [aj];exact Nat.lt_succ_self _
   ·have:b=p:=by simpa using hb
    subst this
    rw [aj];exact Nat.lt_succ_of_lt hlt
  ·intro b o e hb
   have:b=s.heap.objs.size:=by simpa using hb
   subst this
   exact absurd (ai e) (Nat.lt_irrefl _)
  ·exact fun b o e=>ag _ e
end
section
variable {X:Cx} {ad:Ad} {pins:List (Addr×Obj)} {s:Shared} {σ:St} {H G:Hp} {ρ:Rho} {Q:VK} {E:Nat->Hp->Prop} {pos p:Pos} {a b c:Expr} {f g h:F}
theorem _root_.L2.Inv.moved {wr:List Addr} {s2 s':Shared} (I:Inv X pins σ H s) (k1: ∀ b o,s.heap.get? b=some o->s2.heap.get? b=some o) (k2: ∀ b o,s.heap.get? b=some o->b∉wr) (e1:s2.os=s.os) (e2:s2.gens=s.gens) (e3:s2.drawn=s.drawn)
  (m:Moved wr (fun a b=>b=a) s2 s'):Inv X pins σ H s':=by
 have e:s'={ s with heap:=s'.heap,toks:=s'.toks }:=by
  obtain⟨h',g',d',t',o'⟩:=s'
  obtain⟨m1,m2,m3,m4,m5⟩:=m
  simp only at m2 m3 m4 ⊢
  rw [m2,m3,m4,e1,e2,e3]
 rw [e]
 exact I.kept fun b o q=>m.heap b o (k2 b o q) (k1 b o q)
theorem aGn {ns:List Int} {its:List Value} (r:aS (ns.map V.int) its) {i:Nat} {v:Value} (e:its[i]? =some v): ∃ t,v= .int (ns.getD i 0) t:=by
 have hl:=r.length
 have hi:i<its.length:=(ay.mp e).1
 have hi':i<ns.length:=by rw [aq] at hl;omega
 have e1:(ns.map V.int)[i]? =some (V.int ns[i]):=by simp [hi']
 obtain⟨u,e2,t,e3⟩:=r.get e1
 rw [e] at e2
 cases e2
 refine⟨t, ?_⟩
 rw [e3]
 simp [List.getD,hi']
theorem aBr (hh:X.A.handled=none):BOp X ad (.builtin "sum") aLu:=by
 intro pins s σ H G x v u Q E I hG q ru hr
 have hr':RK X.K ad G H (match(items x).bind eA with | some xs=> .ok (.int xs.sum) | none=> .bad) Q E:=hr
 cases e:items x with
 | none=>rw [e] at hr';exact hr'.elim
 | some ds=>
  rw [e] at hr'
  have hr2:RK X.K ad G H (match eA ds with | some xs=> .ok (.int xs.sum) | none=> .bad) Q E:=hr'
  cases e2:eA ds with
  | none=>rw [e2] at hr2;exact hr2.elim
  | some ns=>
   rw [e2] at hr2
   obtain⟨p,vs,rfl,hq,rq⟩:=q.items hG e
   have hq':SqL X.K H p vs\/SqT X.K H p vs:=hq.elim (fun z=> .inr z.2) fun z=> .inl z.2
   cases (show u=Value.ref p from ru)
   have ev:=lO e2 rq
   subst ev
   refine call_sum_walkAnyS (oQ (A:=X.A.in1) hh I hq' fun its s2 I' fp wr Stt rv W st hfp h1 h2 h3 h4 h5=> ?_)
   refine⟨I',fp,wr,_,its.length,_,_,fun i=>ns.getD i 0,rfl,W.toS,st,hfp,fun i v e=>aGn rv e,fun s' t' m=> ?_⟩
   refine⟨.int ns.sum,H,I.moved h5 h4 h1 h2 h3 m,⟨t', ?_⟩,hr2.ok_now hG aO⟩
   rw [preSum_getD, <-rv.length,aq,List.take_length]
theorem aKe {ns:List Bool} {its:List Value} (r:aS (ns.map V.bl) its) {i:Nat} {v:Value} (e:its[i]? =some v):v= .bool (ns.getD i false):=by
 have hl:=r.length
 have hi:i<its.length:=(ay.mp e).1
 have hi':i<ns.length:=by rw [aq] at hl;omega
 have e1:(ns.map V.bl)[i]? =some (V.bl ns[i]):=by simp [hi']
 obtain⟨u,e2,e3⟩:=r.get e1
 rw [e] at e2
 cases e2
 have e4:v= .bool ns[i]:=e3
 rw [e4]
 simp [List.getD,hi']
theorem sJ (ns:List Bool):(List.range ns.length).all (fun i=>ns.getD i false)=ns.all id:=by
 induction ns with
 | nil=>rfl
 | cons x xs ih=>
  rw [br,List.range_succ_eq_map,List.all_cons,List.all_map,List.all_cons]
  have:(List.range xs.length).all ((fun i=>(x::xs).getD i false) ∘ Nat.succ)=xs.all id:=by
   rw [<-ih]
   rfl
  rw [this]
  rfl
theorem aBs (hh:X.A.handled=none):BOp X ad (.builtin "all") aIy:=by
 intro pins s σ H G x v u Q E I hG q ru hr
 have hr':RK X.K ad G H (match(items x).bind eX with | some xs=> .ok (.bl (xs.all id)) | none=> .bad) Q E:=hr
 cases e:items x with
 | none=>rw [e] at hr';exact hr'.elim
 | some ds=>
  rw [e] at hr'
  have hr2:RK X.K ad G H (match eX ds with | some xs=> .ok (.bl (xs.all id)) | none=> .bad) Q E:=hr'
  cases e2:eX ds with
  | none=>rw [e2] at hr2;exact hr2.elim
  | some ns=>
   rw [e2] at hr2
   obtain⟨p,vs,rfl,hq,rq⟩:=q.items hG e
   have hq':SqL X.K H p vs\/SqT X.K H p vs:=hq.elim (fun z=> .inr z.2) fun z=> .inl z.2
   cases (show u=Value.ref p from ru)
   have ev:=i5 e2 rq
   subst ev
   refine call_all_walkS (oQ (A:=X.A.in1) hh I hq' fun its s2 I' fp wr Stt rv W st hfp h1 h2 h3 h4 h5=> ?_)
   refine⟨I',fp,wr,_,its.length,_,_,fun i=>ns.getD i false,rfl,W.toS,st, ?_,fun s' m=> ?_⟩
   ·intro i v s' Q' E' e3 hQ
    rw [aKe rv e3]
    exact wpAny_truthy_bool hQ
   ·refine⟨.bl _,H,I.moved h5 h4 h1 h2 h3 m, ?_,hr2.ok_now hG aZ⟩
    rw [<-rv.length,aq,sJ]
    rfl
theorem aNi {α:Type} {ds:List α} (h:ds.length=2): ∃ d e,ds=[d,e]:=by
 cases ds with
 | nil=>cases h
 | cons d r=>
  cases r with
  | nil=>cases h
  | cons e r=>
   cases r with
   | nil=>exact⟨d,e,rfl⟩
   | cons _ _=>simp at h
theorem aEm {x:Str} {id:String} {r:Fn} {op:Int->Int->Int} (hd: ∀ i j,r [.int i, .int j]= .ok (.int (op i j))) (hb0: ∀ x y Q E G H,RK X.K ad G H (r [x,y]) Q E-> ∃ i j,x= .int i/\y= .int j)
  (ho:iQ X (.builtin id) (fun xs H Q=> ∃ i j,xs=[.int i, .int j]/\Q (.int (op i j)) H)) (hg:L2.Gl X x) (hm:X.mg x=none) (hv:bootBuiltins x=some (.builtin id)) (ha:ME X ad a f) (hb:ME X ad b g) (hn:x≠"__name__")
  (hdb:(x==("__debug__":Str))=false) (he:starEach [a,b] X.env=(false,eval a X.env)::starEach [b] X.env) (he2:starEach [b] X.env=(false,eval b X.env)::starEach [] X.env):ME X ad (.Call (.Name x p) [a,b] [] pos) (aH r [f,g]):=by
 refine PE.imp (oB (id:=id) ho hg hm hv (jO ha (jO hb sC he2) he) hn hdb he (by rw [he2];rfl)) ?_
 rintro σ H Q ⟨G,ρ,E,hG,hS,hx,hr⟩
 refine jP hG hS hx hr fun vs ds G1 H1 st rq hl k=> ?_
 obtain⟨d,e,rfl⟩:=aNi hl
 obtain⟨i,j,rfl,rfl⟩:=hb0 d e Q E G1 H1 k
 unfold aE at rq
 obtain⟨v,r',rfl,r1,r2⟩:=rq
 unfold aE at r2
 obtain⟨v',r'',rfl,r3,r4⟩:=r2
 unfold aE at r4
 subst r4
 unfold Rep at r1 r3
 subst r1;subst r3
 rw [hd] at k
 exact⟨i,j,rfl,k.ok_now st.gh aO⟩
noncomputable def qD (K:PySem.W.Frag) (ad:Ad) (n:Nat) (F:Fn):Sp:=fun vs H Q E=> ∃ G ds,Same G H/\aE K ad G ds vs/\ds.length=n/\RK K ad G H (F ds) Q (fun c H'=>E (.ref (ad.cls c)) none H')
theorem nA {CX:CXT} {k:Nat} {f:Addr} {fd:FuncData} {ps:List Str} {sp:Sp} {E:XK} {us:List Value} {vs:List V} (F:FnOk X.prog X.w X.K X.mg X.base CX k f fd ps sp) (hr:Room k X.A) (hb:dB X.K fd ps [])
  (I:Inv X pins σ H s) (r:aS vs us) (h:sp vs H Q E) (hx: ∀ e s',CX X.stack H s E e s'->X.xe e s'):wpAny (model X.prog X.w) X.A (call (.ref f) us) (EP X pins σ Q) X.xe s:=by
 have hl:(us++[]).length=ps.length:=by rw [List.append_nil, <-r.length];exact F.len _ _ _ _ h
 refine wpAny_call (codeAny_mono (F.run X.A X.stack s H ⟨us,[]⟩ us vs Q E hr I.env0 (by have:=hb s us I.kIn hl;rwa [List.append_nil] at this) r h) fun r s' hq=> ?_)
 cases r with
 | error e=>exact hx e s' hq
 | ok fl=>
  cases fl with
  | ret u=>exact I.after hq
  | next=>exact ba hq
  | brk=>exact ba hq
  | cont=>exact ba hq
structure FnGood (X:Cx) (ad:Ad) (k:Nat) (x:Str) (n:Nat) (F:Fn) (f:Addr):Prop where
 mg:X.mg x=some (.ref f)
 kp:PySem.W.keepIn X.K (.ref f)=true
 ok: ∃ fd ps,FnOk X.prog X.w X.K X.mg X.base (CXe X.prog X.w) k f fd ps (qD X.K ad n F)/\dB X.K fd ps []
theorem sK {k n:Nat} {x:Str} {F:Fn} {f:Addr} {us:List Value} {vs:List V} {ds:List D} (T:FnGood X ad k x n F f) (hr:Room k X.A) (I:Inv X pins σ H s) (hG:Same G H) (hx:XP X ad σ E) (r:aS vs us) (rq:aE X.K ad G ds vs) (hl:ds.length=n)
  (h:RK X.K ad G H (F ds) Q E):wpAny (model X.prog X.w) X.A (call (.ref f) us) (EP X pins σ Q) X.xe s:=by
 obtain⟨fd,ps,F',hb⟩:=T.ok
 exact nA (E:=xk ad E) F' hr hb I r ⟨G,ds,hG,rq,hl,h.impE fun c H' e=>⟨c,rfl,e⟩⟩ fun e s' hc=>hx pins H s e s' I hc
theorem aBt {k n:Nat} {x:Str} {F:Fn} {f:Addr} {es:List Expr} {fs:List SK.F} (T:FnGood X ad k x n F f) (hr:Room k X.A) (hg:L2.Gl X x) (hdb:(x==("__debug__":Str))=false) (ha:MA X ad (a::es) fs) (hn:fs.length=n)
  (he:starEach (a::es) X.env=(false,eval a X.env)::starEach es X.env) (hpl:(backTo pos (starEach es X.env)).any (·.1)=false):ME X ad (.Call (.Name x p) (a::es) [] pos) (aH F fs):=by
 intro pins s σ H Q I ⟨G,ρ,E,hG,hS,hx,hr'⟩
 refine wpAny_Call_Name_kw (eM I hg T.mg ?_ hdb)
 refine PySem.W.callWith_K (h₀:=X.base) I.ok.mod.kin T.kp (L2.thn (ha pos pins s σ H (fun vs H1=> ∃ ds G1,Step G H G1 H1/\aE X.K ad G1 ds vs/\ds.length=fs.length/\RK X.K ad G1 H1 (F ds) Q E) I
  (jP hG hS hx hr' fun vs ds G1 H1 st rq hl k=>⟨ds,G1,st,rq,hl,k⟩)) fun us s1 ⟨vs,H1,I1,r,ds,G1,st,rq,hl,k⟩=>⟨I1.kIn, ?_⟩) he hpl
 exact sK T hr I1 st.gh hx r rq (hl.trans hn) k
structure FnAt (X:Cx) (ad:Ad) (k:Nat) (n:Nat) (F:Fn) (f:Addr):Prop where
 kp:PySem.W.keepIn X.K (.ref f)=true
 ok: ∃ fd ps,FnOk X.prog X.w X.K X.mg X.base (CXe X.prog X.w) k f fd ps (qD X.K ad n F)/\dB X.K fd ps []
theorem aBu {k n:Nat} {F:Fn} {f:Addr} {us:List Value} {vs:List V} {ds:List D} (T:FnAt X ad k n F f) (hr:Room k X.A) (I:Inv X pins σ H s) (hG:Same G H) (hx:XP X ad σ E) (r:aS vs us) (rq:aE X.K ad G ds vs) (hl:ds.length=n)
  (h:RK X.K ad G H (F ds) Q E):wpAny (model X.prog X.w) X.A (call (.ref f) us) (EP X pins σ Q) X.xe s:=by
 obtain⟨fd,ps,F',hb⟩:=T.ok
 exact nA (E:=xk ad E) F' hr hb I r ⟨G,ds,hG,rq,hl,h.impE fun c H' e=>⟨c,rfl,e⟩⟩ fun e s' hc=>hx pins H s e s' I hc
theorem oR {tab:List (Nat×Fn)} {e:Expr} {g:SK.F} {es:List Expr} {fs:List SK.F} (T: ∀ j n F,tab[j]? =some (n,F)-> ∃ r,FnAt X ad r n F (ad.fnA j)/\Room r X.A) (hg:ME X ad e g) (ha:MA X ad (a::es) fs)
  (he:starEach (a::es) X.env=(false,eval a X.env)::starEach es X.env) (hpl:(backTo pos (starEach es X.env)).any (·.1)=false)
  (hev:eval (.Call e (a::es) [] pos) X.env=(do callWith pos (<-eval e X.env) [] (backTo pos (starEach (a::es) X.env)) (backToKw pos (keywordEach [] X.env)))):ME X ad (.Call e (a::es) [] pos) (rW tab g fs):=by
 intro pins s σ H Q I ⟨G,ρ,E,hG,hS,hx,hr⟩
 refine Call_ (L2.thn (hg.thn I hG hS hx hr) fun u s1 ⟨v,d,G1,H1,I1,r1,st,q,k1⟩=> ?_) hev
 cases d<;>try exact ba k1
 rename_i j
 have k2:RK X.K ad G1 H1 (match tab[j]? with | some (n,f)=>if n=fs.length then mG fs ρ f else .bad | none=> .bad) Q E:=k1
 cases e1:tab[j]? with
 | none=>rw [e1] at k2;exact k2.elim
 | some nf=>
  obtain⟨n,F⟩:=nf
  rw [e1] at k2
  have k3:RK X.K ad G1 H1 (if n=fs.length then mG fs ρ F else .bad) Q E:=k2
  by_cases hn:n=fs.length
  ·rw [if_pos hn] at k3
   unfold Rep at q
   subst q
   cases (show u=Value.ref (ad.fnA j) from r1)
   obtain⟨r,FA,hro⟩:=T j n F e1
   refine PySem.W.callWith_K (h₀:=X.base) I1.ok.mod.kin FA.kp (L2.thn (ha pos pins s1 σ H1 (fun vs H2=> ∃ ds G2,Step G1 H1 G2 H2/\aE X.K ad G2 ds vs/\ds.length=fs.length/\RK X.K ad G2 H2 (F ds) Q E) I1
    (jP st.gh (hS.step st) hx k3 fun vs ds G2 H2 st2 rq hl k=>⟨ds,G2,st2,rq,hl,k⟩)) fun us s2 ⟨vs,H2,I2,r2,ds,G2,st2,rq,hl,k⟩=>⟨I2.kIn, ?_⟩) he hpl
   exact aBu FA hro I2 st2.gh hx r2 rq (hl.trans hn.symm) k
  ·rw [if_neg hn] at k3
   exact k3.elim
end
noncomputable def hJ (cells:List (Str×Addr)):List (Str×NameKind)->List (Str×Addr)->List (Str×Addr)
 | [],acc=>acc
 | (x,k)::r,acc=>hJ cells r (if k== .free then(x,(cells.lookup x).getD 0)::acc else acc)
theorem fZ {cells:List (Str×Addr)}: ∀ {ns:List (Str×NameKind)} {acc:List (Str×Addr)} {x:Str} {c:Addr},(hJ cells ns acc).lookup x=some c->(∃ k,(x,k)∈ns/\k= .free/\c=(cells.lookup x).getD 0)\/acc.lookup x=some c
 | [],acc,x,c,h=> .inr h
 | (y,k)::r,acc,x,c,h=>by
  rcases fZ (ns:=r) h with ⟨k',h1,h2,h3⟩ | h
  ·exact .inl ⟨k', .tail _ h1,h2,h3⟩
  ·by_cases hk:(k==NameKind.free)=true
   ·rw [if_pos hk,List.lookup_cons] at h
    cases hx:x==y with
    | true=>
     rw [hx] at h
     have e:x=y:=eq_of_beq hx
     subst e
     exact .inl ⟨k, .head _,eq_of_beq hk,(Option.some.inj h).symm⟩
    | false=>
     rw [hx] at h
     exact .inr h
   ·rw [if_neg hk] at h
    exact .inr h
theorem oS {cells:List (Str×Addr)}: ∀ {ns:List (Str×NameKind)} {acc:List (Str×Addr)} {x:Str},(acc.lookup x).isSome=true->((hJ cells ns acc).lookup x).isSome=true
 | [],_,_,h=>h
 | (y,k)::r,acc,x,h=>by
  refine oS (ns:=r) ?_
  by_cases hk:(k==NameKind.free)=true
  ·rw [if_pos hk,List.lookup_cons]
   cases x==y with
   | true=>rfl
   | false=>exact h
  ·rw [if_neg hk]
   exact h
theorem f8 {cells:List (Str×Addr)}: ∀ {ns:List (Str×NameKind)} {acc:List (Str×Addr)} {x:Str},(x,NameKind.free)∈ns->((hJ cells ns acc).lookup x).isSome=true
 | [],_,_,h=>nomatch h
 | (y,k)::r,acc,x,h=>by
  rcases av.mp h with e | h
  ·cases e
   refine oS (ns:=r) ?_
   rw [if_pos (by rfl),List.lookup_cons,beq_self_eq_true]
   rfl
  ·exact f8 (ns:=r) h
theorem fI {sc:Scope} {env:PySem.Env} (h: ∀ x,(x,NameKind.free)∈sc.names->(env.cells.lookup x).isSome=true):closureFor sc env=pure (hJ env.cells sc.names []):=by
 have go: ∀ (ns:List (Str×NameKind)) (acc:List (Str×Addr)),(∀ x,(x,NameKind.free)∈ns->(env.cells.lookup x).isSome=true)->
   (forIn ns acc (fun(p:Str×NameKind) (cs:List (Str×Addr))=>if p.2== .free then do let c<-cellOf env p.1;pure (ForInStep.yield ((p.1,c)::cs)) else pure (ForInStep.yield cs)):Sem (List (Str×Addr)))=pure (hJ env.cells ns acc):=by
  intro ns
  induction ns with
  | nil=>intro acc _;rfl
  | cons p r ih=>
   intro acc hp
   obtain⟨x,k⟩:=p
   rw [List.forIn_cons]
   by_cases hk:(k==NameKind.free)=true
   ·have ek:k= .free:=eq_of_beq hk
    subst ek
    obtain⟨c,hc⟩:=Option.isSome_iff_exists.mp (hp x (.head _))
    have e1:cellOf env x=pure c:=by unfold cellOf;rw [hc]
    have e2:=ih ((x,c)::acc) fun y hy=>hp y (.tail _ hy)
    simp only [beq_self_eq_true,if_true,e1]
    show(forIn r ((x,c)::acc) _:Sem (List (Str×Addr)))=_
    rw [e2]
    show pure _=pure (hJ env.cells r (if(NameKind.free==NameKind.free)=true then(x,(env.cells.lookup x).getD 0)::acc else acc))
    rw [if_pos (by rfl),hc]
    rfl
   ·simp only [hk]
    show(forIn r acc _:Sem (List (Str×Addr)))=_
    rw [ih acc fun y hy=>hp y (.tail _ hy)]
    show pure _=pure (hJ env.cells r (if(k==NameKind.free)=true then _ else acc))
    rw [if_neg hk]
 have e:=go sc.names [] h
 have e2:closureFor sc env=((forIn sc.names ([]:List (Str×Addr)) (fun(p:Str×NameKind) (cs:List (Str×Addr))=>if p.2== .free then do let c<-cellOf env p.1;pure (ForInStep.yield ((p.1,c)::cs)) else pure (ForInStep.yield cs)):Sem (List (Str×Addr))) >>= fun cs=>pure cs):=rfl
 rw [e2,e]
 rfl
theorem bG {env:PySem.Env} {x:Str}: ∀ {names:List (Str×NameKind)},(names.map fun(n,k)=>if(k==NameKind.free&&env.scope.kind== .function&&env.kindOf n==some .cell) then(n,NameKind.cell) else(n,k)).lookup x=
  (names.lookup x).map fun k=>if(k==NameKind.free&&env.scope.kind== .function&&env.kindOf x==some .cell) then NameKind.cell else k
 | []=>rfl
 | (n,k)::r=>by
  rw [List.map_cons]
  have ih:= @bG env x r
  show List.lookup x ((if(k==NameKind.free&&env.scope.kind== .function&&env.kindOf n==some .cell)=true then(n,NameKind.cell) else(n,k))::_)=_
  by_cases hc:(k==NameKind.free&&env.scope.kind== .function&&env.kindOf n==some .cell)=true
  ·rw [if_pos hc,List.lookup_cons,List.lookup_cons]
   cases hx:x==n with
   | true=>
    have e:x=n:=eq_of_beq hx
    subst e
    simp only [Option.map,hc,if_true]
   | false=>exact ih
  ·rw [if_neg hc,List.lookup_cons,List.lookup_cons]
   cases hx:x==n with
   | true=>
    have e:x=n:=eq_of_beq hx
    subst e
    simp only [Option.map]
    rw [if_neg hc]
   | false=>exact ih
noncomputable def aI3:Nat->Nat->TGs
 | _,0=>aJi
 | j,n+1=>aAr (gO j) (aI3 (j+1) n)
noncomputable def eG:Nat->List V->St->St
 | _,[],σ=>σ
 | j,v::r,σ=>eG (j+1) r (σ.set j (some v))
theorem sL: ∀ {vs:List V} {j:Nat} {σ:St} {H:Hp} {Q:St->Hp->Prop},Q (eG j vs σ) H->aI3 j vs.length vs σ H Q
 | [],_,_,_,_,h=>⟨rfl,h⟩
 | v::r,j,σ,H,Q,h=>⟨v,r,rfl,sL (vs:=r) (j:=j+1) (σ:=σ.set j (some v)) h⟩
theorem dI: ∀ {vs:List V} {j:Nat} {σ:St},(eG j vs σ).length=σ.length
 | [],_,_=>rfl
 | v::r,j,σ=>by
  show(eG (j+1) r (σ.set j (some v))).length=_
  rw [dI (vs:=r),List.length_set]
theorem hU: ∀ {vs:List V} {j i:Nat} {σ:St},j+vs.length<=i\/i<j->(eG j vs σ)[i]? =σ[i]?
 | [],_,_,_,_=>rfl
 | v::r,j,i,σ,h=>by
  show(eG (j+1) r (σ.set j (some v)))[i]? =_
  simp only [br] at h
  rw [hU (vs:=r) (by omega),bd (by omega)]
theorem lP: ∀ {vs:List V} {j i:Nat} {σ:St} {v:V},vs[i]? =some v->j+vs.length<=σ.length->(eG j vs σ)[j+i]? =some (some v)
 | [],_,_,_,_,h,_=>by simp at h
 | w::r,j,0,σ,v,h,hl=>by
  simp at h
  subst h
  show(eG (j+1) r (σ.set j (some w)))[j]? =_
  rw [hU (vs:=r) (.inr (by omega)),bn (by simp only [br] at hl;omega)]
 | w::r,j,i+1,σ,v,h,hl=>by
  show(eG (j+1) r (σ.set j (some w)))[j+(i+1)]? =_
  have e:j+(i+1)=(j+1)+i:=by omega
  rw [e]
  exact lP (vs:=r) (by simpa using h) (by simp only [br,List.length_set] at hl ⊢;omega)
section
variable {X:Cx} {ad:Ad}
theorem lQ (hN:X.N.Nodup): ∀ {es:List Expr} {xs:List Str} {j:Nat},cV (fun(e:Expr)=>match e with | .Name x _=>some x | _=>none) es=some xs->(∀ (i:Nat) (x:Str),xs[i]? =some x->X.N[j+i]? =some x/\X.env.scope.names.lookup x=some .local)->PGs X es (aI3 j xs.length)
 | [],xs,j,e,_=>by
  cases e
  exact rH
 | a::es,xs,j,e,h=>by
  unfold cV at e
  cases a<;>try (cases e)
  rename_i x px
  simp only at e
  obtain⟨r,e1,e2⟩:=zMd e
  subst e2
  obtain⟨h1,h2⟩:=h 0 x rfl
  refine nZ (fF hN (by simpa using h1) (.inl h2) (.inr h2)) (lQ hN e1 fun i y hy=> ?_) rfl
  obtain⟨h3,h4⟩:=h (i+1) y (by simpa using hy)
  exact⟨by rw [<-h3];congr 1;omega,h4⟩
noncomputable def gTg (K:PySem.W.Frag) (k:Nat):TG:=match k with
 | 0=>gO 0
 | n+1=>aE8 K (n+1) (aI3 0 (n+1))
theorem aKf {tg:Expr} {xs:List Str} {k:Nat} (hc:X.calm=true) (hN:X.N.Nodup) (e:bH tg=some (xs,k)) (h: ∀ (i:Nat) (x:Str),xs[i]? =some x->X.N[i]? =some x/\X.env.scope.names.lookup x=some .local):PG X tg (gTg X.K k):=by
 cases tg<;>try (cases e)
 ·rename_i x px
  obtain⟨h1,h2⟩:=h 0 x rfl
  exact fF hN h1 (.inl h2) (.inr h2)
 ·rename_i es j px
  unfold bH at e
  obtain⟨ys,e1,e2⟩:=zBd e
  by_cases hl:2<=ys.length
  ·rw [if_pos hl] at e2
   cases e2
   have P:=lQ (X:=X) hN (j:=0) e1 fun i x hx=>by
    obtain⟨h1,h2⟩:=h i x hx
    exact⟨by rw [Nat.zero_add];exact h1,h2⟩
   have hlen:(assignEach es X.env).length=xs.length/\(assignEach es X.env).findIdx? (·.1)=none:=by
    clear P hl h e
    induction es generalizing xs with
    | nil=>cases e1;exact⟨rfl,rfl⟩
    | cons a r ih=>
     unfold cV at e1
     cases a<;>try (cases e1)
     rename_i z pz
     simp only at e1
     obtain⟨r',e3,e4⟩:=zMd e1
     subst e4
     obtain⟨i1,i2⟩:=ih e3
     have ec:assignEach (Expr.Name z pz::r) X.env=(false,assign (.Name z pz) X.env)::assignEach r X.env:=rfl
     rw [ec]
     refine⟨by simp [i1], ?_⟩
     rw [List.findIdx?_cons]
     simp [i2]
   obtain⟨n,hn⟩: ∃ n,xs.length=n+1:=⟨xs.length - 1,by omega⟩
   rw [hn] at P ⊢
   exact yK hc P (by rw [<-hn];exact hlen.1) hlen.2
  ·rw [if_neg hl] at e2
   cases e2
end
structure ItH (X:Cx) (ad:Ad) (J:It) (G H:Hp) (ds:List D):Prop where
 go: ∀ (i:Nat) (G1 H1:Hp) (d:D),Step G H G1 H1->ds[i]? =some d->J.go i H1/\ ∀ x H2,J.yld i H1 x H2-> ∃ G2,Step G1 H1 G2 H2/\Rep X.K ad G2 d x
 stop: ∀ (G1 H1:Hp),Step G H G1 H1->J.stop ds.length H1
 few:ds.length<=sizeLine
def IK (X:Cx) (ad:Ad) (G H:Hp) (r:R) (W:It->Hp->Prop) (E:Nat->Hp->Prop):Prop:=match r with
 | .ok d=> ∃ ds,lF d=some ds/\ ∀ J G' H',Step G H G' H'->ItH X ad J G' H' ds->W J H'
 | .ow xs=> ∀ J G' H',Step G H G' H'->ItH X ad J G' H' xs->W J H'
 | .ex c=> ∀ G' H',Step G H G' H'->E c H'
 | .bad=>False
noncomputable def tI (X:Cx) (ad:Ad) (f:F):TI:=fun σ H W=> ∃ G ρ E,Same G H/\SL X.K ad G H ρ σ/\XP X ad σ E/\IK X ad G H (f ρ) W E
abbrev MI (X:Cx) (ad:Ad) (tg e:Expr) (f:F):Prop:=PI X tg e (tI X ad f)
def Cel (sc:Scope):Prop:=lK sc=[]\/ ∃ x,lK sc=[x]/\sc.names.lookup x=some .cell
theorem cf0: ∀ {ns:List (Str×NameKind)} {a:Nat} {acc:List (Str×Addr)},(ns.filter fun p=>p.2== .cell).map (·.1)=[]->cellsFrom a ns acc=acc/\ ∀ h,pushCells h ns=h
 | [],_,_,_=>⟨rfl,fun _=>rfl⟩
 | (y,k)::r,a,acc,e=>by
  by_cases hk:(k==NameKind.cell)=true
  ·simp [List.filter_cons,hk] at e
  ·have e':(r.filter fun p=>p.2== .cell).map (·.1)=[]:=by simpa [List.filter_cons,hk] using e
   obtain⟨h1,h2⟩:=cf0 (a:=a) (acc:=acc) e'
   unfold cellsFrom pushCells
   exact⟨by rw [if_neg hk];exact h1,fun h=>by rw [if_neg hk];exact h2 h⟩
theorem cf1: ∀ {ns:List (Str×NameKind)} {a:Nat} {acc:List (Str×Addr)} {x:Str},(ns.filter fun p=>p.2== .cell).map (·.1)=[x]->cellsFrom a ns acc=(x,a)::acc/\ ∀ h,pushCells h ns=h.push { cls:= .type "cell",data:= .cell none }
 | [],_,_,_,e=>by simp at e
 | (y,k)::r,a,acc,x,e=>by
  by_cases hk:(k==NameKind.cell)=true
  ·have e':y=x/\(r.filter fun p=>p.2== .cell).map (·.1)=[]:=by simpa [List.filter_cons,hk] using e
   obtain⟨rfl,e'⟩:=e'
   obtain⟨h1,h2⟩:=cf0 (a:=a+1) (acc:=(y,a)::acc) e'
   unfold cellsFrom pushCells
   exact⟨by rw [if_pos hk];exact h1,fun h=>by rw [if_pos hk];exact h2 _⟩
  ·have e':(r.filter fun p=>p.2== .cell).map (·.1)=[x]:=by simpa [List.filter_cons,hk] using e
   obtain⟨h1,h2⟩:=cf1 (a:=a) (acc:=acc) e'
   unfold cellsFrom pushCells
   exact⟨by rw [if_neg hk];exact h1,fun h=>by rw [if_neg hk];exact h2 h⟩
noncomputable def clC (X:Cx) (sc:Scope) (L:Addr):List (Str×Addr):=cellsFrom (L+1) sc.names (hJ X.env.cells sc.names [])
theorem dJ {X:Cx} {sc:Scope} {L:Addr} {y:Str} {c:Addr} (hc:Cel sc) (h:(clC X sc L).lookup y=some c):(lK sc=[y]/\c=L+1)\/(hJ X.env.cells sc.names []).lookup y=some c:=by
 unfold clC at h
 rcases hc with e | ⟨x,e,_⟩
 ·rw [(cf0 e).1] at h;exact .inr h
 ·rw [(cf1 e).1,List.lookup_cons] at h
  cases q:y==x with
  | true=>rw [q] at h;rw [eq_of_beq q];exact .inl ⟨e,(Option.some.inj h).symm⟩
  | false=>rw [q] at h;exact .inr h
theorem sM {X:Cx} {sc:Scope} {L:Addr} {x:Str} (e:lK sc=[x]):(clC X sc L).lookup x=some (L+1):=by
 unfold clC
 rw [(cf1 e).1,List.lookup_cons,beq_self_eq_true]
theorem oT {X:Cx} {sc:Scope} {L:Addr} {y:Str} {c:Addr} (hc:Cel sc) (hy:sc.names.lookup y=some .free) (h:(hJ X.env.cells sc.names []).lookup y=some c):(clC X sc L).lookup y=some c:=by
 unfold clC
 rcases hc with e | ⟨x,e,hx⟩
 ·rw [(cf0 e).1];exact h
 ·rw [(cf1 e).1,List.lookup_cons]
  cases q:y==x with
  | true=>rw [eq_of_beq q,hx] at hy;cases hy
  | false=>exact h
noncomputable def cX (X:Cx) (N':List Str) (sc:Scope) (s3:Shared) (H3:Hp) (fp:List Addr) (pins:List (Addr×Obj)):Cx:=
 { X with N:=N',s₀:=s3,H₀:=H3,env:=compEnvC sc (clC X sc s3.heap.objs.size) s3.heap.objs.size X.env,outer:=X.stack,stack:=X.stack,ex:=fp,fn:=fun y=>decide (lK sc=[y]),pn:=X.pn++pins,xe:=fun _ _=>False }
section
variable {X:Cx} {ad:Ad} {pins:List (Addr×Obj)} {s s3:Shared} {σ:St} {H H3 G:Hp} {ρ:Rho} {Q:VK} {E:Nat->Hp->Prop} {pos:Pos} {sc:Scope} {N':List Str} {fp:List Addr}
theorem wN {Y:Cx} {σ:St} (h:Y.xe=fun _ _=>False):XP Y ad σ (fun _ _=>False):=by
 intro pins H s e s' I hc
 obtain⟨ea,cls,a0,H',B,_,_,_,_,_,_,_,_,_,c,_,z⟩:=hc
 exact z.elim
theorem Un.sameBut {fs ex:List Addr} {H H':Hp} {h h1 h2:Heap} {C:Addr} (u:Un fs ex H H' h h1) (sb:Heap.SameBut C h1 h2) (hC:h.objs.size<=C):Un fs ex H H' h h2:=by
 have ne: ∀ b o,h.get? b=some o->b≠C:=fun b o e z=>by
  subst z
  exact absurd (bh (ai e) hC) (Nat.lt_irrefl _)
 refine⟨fun b o e n hb hx=> ?_,fun b o e n hb hx=> ?_,u.free,fun b o e hx=> ?_,u.tups,u.frzs,u.tbls⟩
 ·exact(sb.2 b (ne b o e)).trans (u.keep b o e n hb hx)
 ·obtain⟨sl,z⟩:=u.slot b o e n hb hx
  exact⟨sl,(sb.2 b (ne b o e)).trans z⟩
 ·obtain⟨o',z⟩:=u.there b o e hx
  exact⟨o',(sb.2 b (ne b o e)).trans z⟩
theorem wO {fpO: ∀ b∈fp,mO X pins H3 b} {h4:Heap} {m:Str->Option Value} {t':Nat} (I:Inv X pins σ H3 s3) (hk:sc.kind= .function) (hc:Cel sc)
  (hfree: ∀ x,(x,NameKind.free)∈sc.names->X.env.kindOf x=some .cell\/X.env.kindOf x=some .free) (hnd: ∀ x,(x,NameKind.free)∈sc.names->sc.names.lookup x=some .free)
  (hfo: ∀ b∈fp,b<s3.heap.objs.size) (hns:h4.Ns s3.heap.objs.size m) (hkeep: ∀ b o,s3.heap.get? b=some o->h4.get? b=some o) (hnew: ∀ x,lK sc=[x]->h4.IsCell (s3.heap.objs.size+1) none)
  {σc:St} (hl:σc.length=N'.length) (hσ: ∀ (i:Nat) (x:Str) (v:V),N'[i]? =some x->σc[i]? =some (some v)-> ∃ j:Nat,X.N[j]? =some x/\σ[j]? =some (some v)/\(x,NameKind.free)∈sc.names):
  Inv (cX X N' sc s3 H3 fp pins) [] σc H3 { s3 with heap:=h4,toks:=t' }:=by
 have hcl: ∀ x c,(hJ X.env.cells sc.names []).lookup x=some c->(x,NameKind.free)∈sc.names/\X.env.cells.lookup x=some c:=fun x c e=>by
  rcases fZ e with ⟨k,h1,h2,h3⟩ | h
  ·subst h2
   refine⟨h1, ?_⟩
   obtain⟨c',hc'⟩:=I.ok.has x (hfree x h1)
   rw [hc'] at h3
   rw [h3]
   exact hc'
  ·cases h
 have hlt: ∀ x c,(hJ X.env.cells sc.names []).lookup x=some c->c<s3.heap.objs.size:=fun x c e=>by
  obtain⟨v,o,ho,_⟩:=I.cell x c (hcl x c e).2
  exact ai ho
 have stk: ∀ b,b∈frs X.stack->b=X.env.locals\/b∈X.fs:=fun b hb=>av.mp (I.stkSub b hb)
 refine⟨⟨I.ok.mod,hk,I.ok.glob,I.ok.blt,ak _,fun x y c h1 h2=> ?_,fun x hx=> ?_,fun x c h1 h2=> ?_,I.ok.hd,I.ok.frames, .inl rfl,fun b hb=> ?_,I.bs,Nat.le_trans I.ok.bsz I.sz,fun b o e hb=> ?_,fun b hb hb'=> ?_,I.stack,I.stkFree⟩,
  rfl,I.bare,Un.kept hkeep,⟨m,hns,fun i x v h1 h2 h3=> ?_⟩,fun x c h=> ?_,I.hok.fresh (ak _),fun x c h=> ?_,fun q hq=> ?_,I.hok.kept hkeep,hl⟩
 ·rcases dJ hc h1 with ⟨e1,z1⟩ | z1
  ·rcases dJ hc h2 with ⟨e2,z2⟩ | z2
   ·rw [e1] at e2
    exact(List.cons.inj e2).1
   ·have:=hlt y c z2
    rw [z1] at this
    exact absurd this (Nat.not_lt.mpr (Nat.le_succ _))
  ·rcases dJ hc h2 with ⟨e2,z2⟩ | z2
   ·have:=hlt x c z1
    rw [z2] at this
    exact absurd this (Nat.not_lt.mpr (Nat.le_succ _))
   ·exact I.ok.inj x y c (hcl x c z1).2 (hcl y c z2).2
 ·-- a name that is a cell here was free in the scope
  have e:(sc.names.lookup x).map (fun k=>if(k==NameKind.free&&X.env.scope.kind== .function&&X.env.kindOf x==some .cell) then NameKind.cell else k)=some .cell\/(sc.names.lookup x).map (fun k=>if(k==NameKind.free&&X.env.scope.kind== .function&&X.env.kindOf x==some .cell) then NameKind.cell else k)=some .free:=by
   rw [<-bG]
   exact hx
  cases q:sc.names.lookup x with
  | none=>rw [q] at e;rcases e with e | e<;>cases e
  | some k=>
   have hm:=PySem.mem_of_lookup q
   by_cases hkk:k= .free
   ·subst hkk
    obtain⟨c,hc'⟩:=Option.isSome_iff_exists.mp (f8 (cells:=X.env.cells) (acc:=[]) hm)
    exact⟨c,oT hc q hc'⟩
   ·have hkf:(k==NameKind.free)=false:=by simpa using hkk
    rw [q] at e
    simp only [Option.map,hkf,Bool.false_and] at e
    rcases e with e | e
    ·have hkc:k= .cell:=by simpa using e
     subst hkc
     have hmem:x∈lK sc:=au.mpr ⟨(x, .cell),List.mem_filter.mpr ⟨hm,by simp⟩,rfl⟩
     have hx1:lK sc=[x]:=by
      rcases hc with z | ⟨y,z,_⟩
      ·rw [z] at hmem;cases hmem
      ·rw [z] at hmem ⊢
       rw [List.mem_singleton.mp hmem]
     exact⟨_,sM hx1⟩
    ·exact absurd (by simpa using e) hkk
 ·have hx1:lK sc=[x]:=of_decide_eq_true h1
  have:=h2.symm.trans (sM hx1)
  cases this
  exact Nat.le_succ _
 ·obtain⟨f0,f1,f2,f3,f4,f5⟩:=fpO b hb
  refine⟨bj (hfo b hb),fun x c h=> ?_⟩
  rcases dJ hc h with ⟨_,z⟩ | z
  ·rw [z];exact(bj (Nat.lt_succ_of_lt (hfo b hb))).symm
  ·exact f4 x c (hcl x c z).2
 ·obtain⟨f0,f1,f2,f3,f4,f5⟩:=fpO b hb
  rcases f3 with z | z
  ·exact I.ok.noex b o e z
  ·exact absurd (bh (ai e) (Nat.le_trans I.ok.bsz z)) (Nat.lt_irrefl _)
 ·obtain⟨f0,f1,f2,f3,f4,f5⟩:=fpO b hb
  rcases stk b hb' with z | z
  ·exact f1 z
  ·exact f2 z
 ·obtain⟨j,j1,j2,j3⟩:=hσ i x v h1 h2
  obtain⟨m0,hn0,hl0⟩:=I.loc
  have hkx:=hfree x j3
  have vis:Vis X.env.scope x:=by
   rcases hkx with z | z
   ·exact .inr (.inl z)
   ·exact .inr (.inr z)
  obtain⟨u,r,l⟩:=hl0 j x v j1 j2 vis
  refine⟨u,r, .inr ?_⟩
  rcases l with ⟨z,_⟩ | ⟨_,c,hcc,hcell'⟩
  ·rcases hkx with z' | z'
   ·have:X.env.kindOf x=some .local:=z
    rw [z'] at this;cases this
   ·have:X.env.kindOf x=some .local:=z
    rw [z'] at this;cases this
  ·refine⟨?_,c, ?_, ?_⟩
   ·have e1:(relabel sc X.env).names.lookup x=(sc.names.lookup x).map (fun k=>if(k==NameKind.free&&X.env.scope.kind== .function&&X.env.kindOf x==some .cell) then NameKind.cell else k):=bG
    have e2:(relabel sc X.env).names.lookup x=some .cell\/(relabel sc X.env).names.lookup x=some .free:=by
     rw [e1,hnd x j3]
     simp only [Option.map]
     split
     ·exact .inl rfl
     ·exact .inr rfl
    exact e2
   ·obtain⟨c',hc'⟩:=Option.isSome_iff_exists.mp (f8 (cells:=X.env.cells) (acc:=[]) j3)
    have:=(hcl x c' hc').2
    rw [hcc] at this
    cases this
    exact oT hc (hnd x j3) hc'
   ·obtain⟨o,ho,hd⟩:=hcell'
    exact⟨o,hkeep _ _ ho,hd⟩
 ·rcases dJ hc h with ⟨e,z⟩ | z
  ·rw [z];exact⟨none,hnew x e⟩
  ·obtain⟨v,o,ho,hd⟩:=I.cell x c (hcl x c z).2
   exact⟨v,o,hkeep _ _ ho,hd⟩
 ·rcases dJ hc h with ⟨e,z⟩ | z
  ·rw [z];exact I.hok.fresh (Nat.le_succ _)
  ·exact I.freeC x c (hcl x c z).2
 ·have hq':q∈X.pn++pins:=by
   have h2:q∈(X.pn++pins)++[]:=hq
   rwa [List.append_nil] at h2
  obtain⟨e,n,ne,nf,d⟩:=I.pin q hq'
  refine⟨hkeep _ _ e,n,bj (ai e),fun z=> ?_,d⟩
  rcases stk _ z with z | z
  ·exact ne z
  ·exact nf z
theorem zF {fpO: ∀ b∈fp,mO X pins H3 b} {σc:St} {H':Hp} {s':Shared} {h':Heap} {pn':List (Addr×Obj)} (I:Inv X pins σ H3 s3) (J:Inv (cX X N' sc s3 H3 fp pins) pn' σc H' s') (sb:Heap.SameBut s3.heap.objs.size s'.heap h'):Inv X pins σ H' { s' with heap:=h' }:=by
 have hfree:H' s3.heap.objs.size=none:=J.free
 refine I.call' (ch:=fp) (s':={ s' with heap:=h' }) J.os (Un.sameBut J.base sb (ak _)) (fun b u e=> ?_) J.bare fun b hb=> ?_
 ·refine(J.hok b u e).stay (fun c v hc q=> ?_) (fun _ q=>q) fun _ _ q=>q
  have ne:c≠s3.heap.objs.size:=by
   rintro rfl
   rcases hc with z | z
   ·rw [<-z] at e;rw [hfree] at e;cases e
   ·rw [hfree] at z;cases z
  exact(sb.2 c ne).trans q
 ·obtain⟨f0,f1,f2,f3,f4,f5⟩:=fpO b hb
  exact⟨f3,f1,f4,f5⟩
theorem nB {prog:Program} {w:World} {A:Around} {Rr:Result->Shared->Prop} {s:Shared} {elt target iter:Expr} {ifs:List Expr} {scope:Scope} {pos:Pos} {it acc:Value} {env:PySem.Env} (Iv:Nat->Shared->Prop)
  (turn: ∀ n s,Iv n s->wpAny (model prog w) A (pyNext it) (fun r s₁=>match r with
   | none=>Rr (.ok .next) s₁
   | some v=>wpAny (model prog w) A (letOwnedTupleGo target it v) (fun _ s₁'=>wpAny (model prog w) A (assign target env v) (fun _ s₂=>
     wpAny (model prog w) A (forIn ifs true fun c r=>if r=true then do let ok<-isTrue c env (eval c env);pure (ForInStep.yield ok) else pure (ForInStep.yield r)) (fun ok s₃=>
      if ok=true then wpAny (model prog w) A (eval elt env) (fun x s₄=>
       wpAny (model prog w) A (call (.builtin "list.append") [acc,x]) (fun _ s₅=> ∃ m,m<n/\Iv m s₅) (fun _ _=>False) s₄) (fun _ _=>False) s₃
      else ∃ m,m<n/\Iv m s₃) (fun _ _=>False) s₂) (fun _ _=>False) s₁') (fun _ _=>False) s₁) (fun _ _=>False) s)
  (n:Nat) (h:Iv n s):
  codeAny (model prog w) A (.compLoop (.ListComp elt [⟨target,iter,ifs,0⟩] scope pos) 0 it acc env) Rr s:=by
 refine codeAny_loop rfl Iv (fun n s hI=> ?_) n h
 show wpAny _ A ((compTurn (.ListComp elt [⟨target,iter,ifs,0⟩] scope pos) 0 it acc env).onRaise (fun x=>do noteFrame x env;theTreesLotGoes x)) _ _ s
 refine wpAny_noted (wpAny_noRaise ?_)
 rw [compTurn_list]
 refine ae (wpAny_standAt (ae (wpAny_mono (turn n s hI) (fun r s₁ h₁=> ?_) fun _ _ h'=>h')))
 cases r with
 | none=>exact af h₁
 | some v=>
  refine ae (wpAny_mono h₁ (fun _ s₁' h₁'=> ?_) fun _ _ h'=>h')
  refine ae (wpAny_mono h₁' (fun _ s₂ h₂=>ae (wpAny_mono h₂ (fun ok s₃ h₃=> ?_) fun _ _ h'=>h')) fun _ _ h'=>h')
  cases ok with
  | false=>exact af ⟨rfl,h₃⟩
  | true=>
   exact ae (ae (wpAny_mono h₃ (fun x s₄ h₄=>ae (wpAny_mono h₄ (fun _ s₅ h₅=>af (af ⟨rfl,h₅⟩)) fun _ _ h'=>h')) fun _ _ h'=>h'))
theorem hV {f:D->Option (Option D)} {d:D} {r all:List D} (h:bZ f (d::r)=some all):(f d=some none/\bZ f r=some all)\/ ∃ x all',f d=some (some x)/\bZ f r=some all'/\all=x::all':=by
 unfold bZ at h
 cases e:f d with
 | none=>rw [e] at h;cases h
 | some o=>
  rw [e] at h
  cases o with
  | none=>exact .inl ⟨rfl,h⟩
  | some x=>
   obtain⟨a,h1,h2⟩:=zMd h
   exact .inr ⟨x,a,rfl,h1,h2.symm⟩
theorem sN {K:PySem.W.Frag} {G H:Hp} {ts cs:List Slot} {σ:St} (h:SL K ad G H (ts++cs) σ):SL K ad G H (ao ts.length .no++cs) σ:=by
 refine⟨by rw [<-h.len];simp,fun i sl e=> ?_⟩
 by_cases hi:i<ts.length
 ·rw [bv (by simpa using hi),List.getElem?_replicate,if_pos hi] at e
  cases e
  have hl:i<σ.length:=by rw [<-h.len,bq];omega
  exact⟨σ[i],by simp [hl],trivial⟩
 ·rw [bo (by simpa using hi),List.length_replicate] at e
  refine h.at_ i sl ?_
  rw [bo (by omega)]
  exact e
theorem zG {K:PySem.W.Frag} {G H:Hp} {n:Nat} {cs:List Slot} {σ:St} {ds:List D} {vs:List V} (h:SL K ad G H (ao n .no++cs) σ) (r:aE K ad G ds vs) (hn:ds.length=n):SL K ad G H (ds.map Slot.sh++cs) (eG 0 vs σ):=by
 have hv:=r.length
 have hl:=h.len
 rw [bq,List.length_replicate] at hl
 refine⟨by rw [dI,bq,aq];omega,fun i sl e=> ?_⟩
 by_cases hi:i<n
 ·rw [bv (by rw [aq];omega),List.getElem?_map] at e
  cases e1:ds[i]? with
  | none=>rw [e1] at e;cases e
  | some d=>
   rw [e1] at e
   cases e
   obtain⟨v,e2,r2⟩:=r.get e1
   refine⟨some v, ?_,v,rfl,r2⟩
   have:=lP (j:=0) (σ:=σ) e2 (by omega)
   rwa [Nat.zero_add] at this
 ·rw [bo (by rw [aq];omega),aq,hn] at e
  obtain⟨ov,h1,h2⟩:=h.at_ i sl (by rw [bo (by rw [List.length_replicate];omega),List.length_replicate];exact e)
  exact⟨ov,by rw [hU (.inl (by omega))];exact h1,h2⟩
theorem aGo {K:PySem.W.Frag} {k:Nat} {d:D} {v:V} {ts cs:List Slot} {n:Nat} {σ:St} {G H Hs:Hp} {W:St->Hp->Prop} (e:tgt k d=some ts) (hn:n=if k=0 then 1 else k) (hG:Same G H) (r:Rep K ad G d v)
  (h:SL K ad G Hs (ao n .no++cs) σ) (q: ∀ σ',σ'.length=σ.length->SL K ad G Hs (ts++cs) σ'->W σ' H):ts.length=n/\gTg K k v σ H W:=by
 cases k with
 | zero=>
  cases e
  subst hn
  refine⟨rfl,q _ (by rw [List.length_set]) ?_⟩
  have:=zG (ds:=[d]) (vs:=[v]) h (aE.cons r aE.nil) rfl
  exact this
 | succ k=>
  unfold tgt at e
  cases d<;>try (cases e)
  rename_i ds
  simp only at e
  by_cases hl:ds.length=k+1
  ·rw [if_pos hl] at e
   cases e
   rw [if_neg (by omega)] at hn
   subst hn
   unfold Rep at r
   obtain⟨a,vs,rfl,hq,rq⟩:=r
   refine⟨by rw [aq];exact hl,a,vs,rfl,hG.seqT hq,by rw [rq.length];exact hl, ?_⟩
   have hvl:vs.length=k+1:=by rw [rq.length];exact hl
   have:=sL (vs:=vs) (j:=0) (σ:=σ) (H:=H) (Q:=W) (q _ dI (zG h rq hl))
   rwa [hvl] at this
  ·rw [if_neg hl] at e
   cases e
end
section
variable {X:Cx} {ad:Ad} {pins:List (Addr×Obj)} {s s2 s3:Shared} {σ:St} {H H2 H3 G G2:Hp} {ρ:Rho} {Q:VK} {E:Nat->Hp->Prop} {pos:Pos} {sc:Scope} {N':List Str} {fp:List Addr}
 {tg it elt:Expr} {ifs:List Expr} {k nt:Nat} {xs:List Str} {cs:List Slot} {fc:Option F} {fe:F}
theorem dC {x:Str}: ∀ {N:List Str} {i:Nat},idx x N=some i->N[i]? =some x
 | [],_,e=>by cases e
 | y::r,i,e=>by
  unfold idx at e
  by_cases h:x=y
  ·rw [if_pos h] at e
   cases e
   subst h
   rfl
  ·rw [if_neg h] at e
   obtain⟨j,e1,e2⟩:=zMd e
   subst e2
   simpa using dC e1
def MTs (X:Cx) (ad:Ad) (ifs:List Expr) (fc:Option F):Prop:=match ifs,fc with
 | [],none=>True
 | [c],some f=>MT X ad c f
 | _,_=>False
theorem ME.val {a:Expr} {f:F} {x:SK.D} (ha:ME X ad a f) (I:Inv X pins σ H s) (hG:Same G H) (hS:SL X.K ad G H ρ σ) (hx:XP X ad σ E) (hf:f ρ= .ok x\/ ∃ l,f ρ= .ow l/\x= .lst l):
  wpAny (model X.prog X.w) X.A (eval a X.env) (fun u s1=> ∃ v G1 H1,Inv X pins σ H1 s1/\aP v u/\Step G H G1 H1/\Rep X.K ad G1 x v) X.xe s:=by
 rcases hf with e | ⟨l,e,rfl⟩
 ·exact L2.thn (ha pins s σ H (fun v H1=> ∃ G1,Step G H G1 H1/\Rep X.K ad G1 x v) I ⟨G,ρ,E,hG,hS,hx,by rw [e];exact fun v G1 H1 st q=>⟨G1,st,q⟩⟩) fun u s1 ⟨v,H1,I1,r1,G1,st,q⟩=>⟨v,G1,H1,I1,r1,st,q⟩
 ·exact L2.thn (ha pins s σ H (fun v H1=> ∃ G1,Step G H G1 H1/\Rep X.K ad G1 (.lst l) v) I ⟨G,ρ,E,hG,hS,hx,by rw [e];exact fun p vs G1 H1 st n m e' q=>bB st n m e' q⟩) fun u s1 ⟨v,H1,I1,r1,G1,st,q⟩=>⟨v,G1,H1,I1,r1,st,q⟩
theorem MT.val {a:Expr} {f:F} {k:Bool} (ha:MT X ad a f) (I:Inv X pins σ H s) (hG:Same G H) (hS:SL X.K ad G H ρ σ) (hx:XP X ad σ E) (hf:f ρ= .ok (.bl k)):
  wpAny (model X.prog X.w) X.A (isTrue a X.env (eval a X.env)) (fun b s1=>b=k/\ ∃ G1 H1,Inv X pins σ H1 s1/\Step G H G1 H1) X.xe s:=by
 exact L2.thn (ha pins s σ H (fun b H1=>b=k/\ ∃ G1,Step G H G1 H1) I ⟨G,ρ,E,hG,hS,hx, .inl ⟨k,hf⟩,by rw [hf];exact fun v G1 H1 st q=>⟨k,by unfold Rep at q;exact q,rfl,G1,st⟩⟩) fun b s1 ⟨H1,I1,e,G1,st⟩=>⟨e,G1,H1,I1,st⟩
theorem cL {G1 H1 G2 H2:Hp} {D:Addr} {vs:List V} (st:Step G1 H1 G2 H2) (g:G1 D=none) (h:H1 D=some (.lst vs)):G2 D=none/\H2 D=some (.lst vs):=by
 refine⟨?_,st.sh _ _ h⟩
 cases z:G2 D with
 | none=>rfl
 | some o=>
  have:=st.nw D g (by rw [z];exact fun z=>nomatch z)
  rw [h] at this
  cases this
theorem lR {G1 H1 G2 H2:Hp} {D:Addr} {o:HO} (st:Step G1 H1 G2 H2) (n:H1 D=none) (g:G2 D=none):Step G1 H1 G2 (upd H2 D o):=by
 refine⟨st.sg,fun b u e=> ?_,fun b u e=> ?_,st.nw⟩
 ·have ne:b≠D:=fun z=>by subst z;rw [g] at e;cases e
  rw [aA ne]
  exact st.gh b u e
 ·have ne:b≠D:=fun z=>by subst z;rw [n] at e;cases e
  rw [aA ne]
  exact st.sh b u e
noncomputable def hid (D:Addr) (H:Hp):Hp:=fun b=>if b=D then none else H b
theorem hW {D b:Addr} {H:Hp} (h:b≠D):hid D H b=H b:=by unfold hid;rw [if_neg h]
theorem dY {D:Addr} {H:Hp}:hid D H D=none:=by unfold hid;rw [if_pos rfl]
theorem sO {D:Addr} {H:Hp}:Same (hid D H) H:=fun b o e=>by
 by_cases z:b=D
 ·subst z;rw [dY] at e;cases e
 ·rwa [hW z] at e
theorem sP {D:Addr} {H:Hp} {o:HO}:hid D (upd H D o)=hid D H:=by
 funext b
 by_cases z:b=D
 ·subst z;rw [dY,dY]
 ·rw [hW z,hW z,aA z]
theorem aGp {D:Addr} {H:Hp} (h:H D=none):hid D H=H:=by
 funext b
 by_cases z:b=D
 ·subst z;rw [dY,h]
 ·rw [hW z]
theorem f9 {G1 H1 G2 H2:Hp} {D:Addr} (st:Step G1 H1 G2 H2) (g:G2 D=none):Step G1 (hid D H1) G2 (hid D H2):=by
 refine⟨st.sg,fun b u e=> ?_,fun b u e=> ?_,fun b h1 h2=> ?_⟩
 ·have ne:b≠D:=fun z=>by subst z;rw [g] at e;cases e
  rw [hW ne]
  exact st.gh b u e
 ·have ne:b≠D:=fun z=>by subst z;rw [dY] at e;cases e
  rw [hW ne] at e ⊢
  exact st.sh b u e
 ·by_cases z:b=D
  ·subst z;exact dY
  ·rw [hW z];exact st.nw b h1 h2
theorem SL.up {K:PySem.W.Frag} {G H H':Hp} {ρ:Rho} {σ:St} (h:SL K ad G H ρ σ) (s:Same H H'):SL K ad G H' ρ σ:=by
 refine⟨h.len,fun i sl e=> ?_⟩
 obtain⟨ov,h1,h2⟩:=h.at_ i sl e
 refine⟨ov,h1, ?_⟩
 cases sl with
 | no=>trivial
 | sh d=>exact h2
 | ow xs=>
  obtain⟨a,vs,e1,e2,e3,e4⟩:=h2
  exact⟨a,vs,e1,e2,s _ _ e3,e4⟩
 | dc kvs=>
  obtain⟨a,es,e1,e2,e3,e4⟩:=h2
  exact⟨a,es,e1,e2,s _ _ e3,e4⟩
 | sd kvs=>
  obtain⟨a,es,e1,e2,e3,e4⟩:=h2
  exact⟨a,es,e1,e2,s _ _ e3,e4⟩
 | rk C r=>
  obtain⟨p,dx,d,l1,l2,e1,e2⟩:=h2
  exact⟨p,dx,d,l1,l2,e1,e2.up s⟩
theorem wP {M:Model} {A:Around} {Ex:Value->Shared->Prop} {s:Shared} {sc:Scope} {gl:Addr} {cl:List (Str×Addr)} {q:Str} {o:PySem.Env} {Q:PySem.Env->Shared->Prop} (hc:Cel sc)
  (h: ∀ h4:Heap,h4.Ns s.heap.objs.size (fun _=>none)->(∀ b ob,s.heap.get? b=some ob->h4.get? b=some ob)->(∀ x,lK sc=[x]->h4.IsCell (s.heap.objs.size+1) none)->
   Q (newEnv sc s.heap.objs.size gl (cellsFrom (s.heap.objs.size+1) sc.names cl) q none .none (some o) builtinsNs) { s with heap:=h4 }):
  wpAny M A (newFunctionEnv sc gl cl [] q none .none (some o)) Q Ex s:=by
 simp only [newFunctionEnv,Option.isSome_some,if_true]
 refine ae (wpAny_alloc ?_)
 refine ae (wpAny_layCells _ (fun name kind cells=>by cases hkc:kind==NameKind.cell<;>simp [hkc]) _ _ _ _ ?_)
 have hns:(s.heap.push { cls:= .type "dict",data:= .dict #[] }).Ns s.heap.objs.size (fun _=>none):=Heap.Ns.new s.heap (.type "dict")
 have hkp: ∀ b ob,s.heap.get? b=some ob->(pushCells (s.heap.push { cls:= .type "dict",data:= .dict #[] }) sc.names).get? b=some ob:=fun b ob e=>pushCells_keeps _ _ b ob (ag _ e)
 have hz:(s.heap.push { cls:= .type "dict",data:= .dict #[] }:Heap).objs.size=s.heap.objs.size+1:=aj ..
 rw [List.forIn_nil]
 refine ae (af (af ?_))
 have:=h _ (hns.keeps (pushCells_keeps _ _)) hkp fun x e=>by
  rw [(cf1 (a:=0) (acc:=[]) e).2]
  refine⟨{ cls:= .type "cell",data:= .cell none }, ?_,rfl⟩
  rw [<-hz]
  exact ah _ rfl
 rw [<-hz] at this
 exact this
theorem lT {J:It} {ds all:List D} {itA:Addr} {tn:Nat->Heap->Prop} {RR:Value->Addr->Result->Shared->Prop} {Ex:Value->Shared->Prop} (hc:X.calm=true) (I2:Inv X pins σ H2 s2) (T:Turn X.prog X.w X.K tg J fp itA tn) (st2:tn 0 s2.heap)
  (f2: ∀ b∈fp,mO X pins H2 b) (hit:ItH X ad J G2 H2 ds) (hgo:bZ (d9 k cs fc fe) ds=some all) (hG2:Same G2 H2)
  (hk:sc.kind= .function) (hC:Cel sc)
  (hfree: ∀ x,(x,NameKind.free)∈sc.names->X.env.kindOf x=some .cell\/X.env.kindOf x=some .free) (hnd: ∀ x,(x,NameKind.free)∈sc.names->sc.names.lookup x=some .free)
  {σc:St} (hl:σc.length=N'.length) (hσ: ∀ (i:Nat) (x:Str) (v:V),N'[i]? =some x->σc[i]? =some (some v)-> ∃ j:Nat,X.N[j]? =some x/\σ[j]? =some (some v)/\(x,NameKind.free)∈sc.names)
  (hnt:nt=if k=0 then 1 else k) (hsl:SL X.K ad G2 H2 (ao nt .no++cs) σc)
  (hg: ∀ s3 H3 pins',PG (cX X N' sc s3 H3 fp pins') tg (gTg X.K k)) (hts: ∀ s3 H3 pins',MTs (cX X N' sc s3 H3 fp pins') ad ifs fc) (he: ∀ s3 H3 pins',ME (cX X N' sc s3 H3 fp pins') ad elt fe)
  (hEnd: ∀ (s3 s':Shared) (H3 H' G':Hp) (σ':St) (D:Addr) (vs:List V),Inv X pins σ H3 s3->(∀ b∈fp,mO X pins H3 b)->Inv (cX X N' sc s3 H3 fp pins) [] σ' H' s'->Step G2 H2 G' H'->H2 D=none->G' D=none->H' D=some (.lst vs)->aE X.K ad G' all vs->RR (.ref D) s3.heap.objs.size (.ok .next) s'):
  wpAny (model X.prog X.w) X.A (newList []) (fun acc s₃=>wpAny (model X.prog X.w) X.A (newFunctionEnv sc X.env.globals (hJ X.env.cells sc.names []) [] X.env.qual none .none (some X.env)) (fun cenv s₄=>
   codeAny (model X.prog X.w) X.A (.compStart (.ListComp elt [⟨tg,it,ifs,0⟩] sc pos) 0 (.ref itA) acc { cenv with scope:=relabel sc X.env }) (RR acc cenv.locals) s₄) Ex s₃) Ex s2:=by
 refine wpAny_newObj_type ?_
 have hD:H2 s2.heap.objs.size=none:=I2.fresh
 have I3:Inv X pins σ (upd H2 s2.heap.objs.size (.lst [])) { s2 with heap:=s2.heap.push { cls:= .type "list",data:= .seq ([]:List Value).toArray } }:=I2.lnew (t':=s2.toks) .nil (bu _)
 generalize e3:({ s2 with heap:=s2.heap.push { cls:= .type "list",data:= .seq ([]:List Value).toArray } }:Shared)=s3 at I3
 have hsz:s3.heap.objs.size=s2.heap.objs.size+1:=by rw [<-e3];exact aj ..
 have hk3: ∀ b o,s2.heap.get? b=some o->s3.heap.get? b=some o:=fun b o e=>by rw [<-e3];exact ag _ e
 generalize eD:s2.heap.objs.size=D at hD I3 hsz ⊢
 generalize eH:upd H2 D (.lst [])=H3 at I3
 have hH3D:H3 D=some (.lst []):=by rw [<-eH];exact aC
 have hstep3:Step G2 H2 G2 H3:=by rw [<-eH];exact Step.own hG2 hD
 have hfo: ∀ b∈fp,b<D:=fun b hb=>by
  obtain⟨o,e,_⟩:=T.obj 0 _ st2 b hb
  rw [<-eD]
  exact ai e
 have f3: ∀ b∈fp,mO X pins H3 b:=fun b hb=>by
  obtain⟨f0,fr⟩:=f2 b hb
  refine⟨?_,fr⟩
  rw [<-eH,aA (bj (hfo b hb))]
  exact f0
 refine wP hC fun h4 hns hkeep4 hnew4=> ?_
 have I4:Inv (cX X N' sc s3 H3 fp pins) [] σc H3 { s3 with heap:=h4 }:=
  wO (t':=s3.toks) (fpO:=f3) I3 hk hC hfree hnd (fun b hb=>bh (hfo b hb) (by rw [hsz];exact Nat.le_succ _)) hns hkeep4 hnew4 hl hσ
 have st4:tn 0 h4:=T.keep _ _ _ st2 fun b hb o e=>hkeep4 b o (hk3 b o e)
 have few:=hit.few
 -- what holds of the iterator's objects in the block
 have stat: ∀ {H':Hp},(∀ b∈fp,H' b=none)-> ∀ b∈fp,mO (cX X N' sc s3 H3 fp pins) [] H' b:=fun {H'} hn b hb=>by
  obtain⟨f0,f1,f2',f3',f4,f5⟩:=f3 b hb
  refine⟨hn b hb, ?_,fun z=> ?_, .inl hb,fun x c h=> ?_,fun q hq=> ?_⟩
  ·have hle:D<=s3.heap.objs.size:=by rw [hsz];exact Nat.le_succ _
   exact bj (bh (hfo b hb) hle)
  ·rcases av.mp (I3.stkSub b z) with z | z
   ·exact f1 z
   ·exact f2' z
  ·rcases dJ hC h with ⟨_,z⟩ | h'
   ·have hle:D<=s3.heap.objs.size:=by rw [hsz];exact Nat.le_succ _
    rw [z]
    exact(bj (Nat.lt_succ_of_lt (bh (hfo b hb) hle))).symm
   rcases fZ h' with ⟨kk,h1,h2,h3⟩ | h
   ·subst h2
    obtain⟨c',hc'⟩:=I3.ok.has x (hfree x h1)
    rw [hc'] at h3
    have e:c=c':=h3
    rw [e]
    exact f4 x c' hc'
   ·cases h
  ·have h2:q∈(X.pn++pins)++[]:=hq
   rw [List.append_nil] at h2
   exact f5 q h2
 have loop: ∀ s4:Shared,s4={ s3 with heap:=h4 }->
   codeAny (model X.prog X.w) X.A (.compLoop (.ListComp elt [⟨tg,it,ifs,0⟩] sc pos) 0 (.ref itA) (.ref D) (cX X N' sc s3 H3 fp pins).env) (RR (.ref D) s3.heap.objs.size) s4:=by
  rintro s4 rfl
  obtain⟨Iv,hIv⟩: ∃ Iv:Nat->Shared->Prop, ∀ n s',Iv n s'↔ ∃ (i:Nat) (σ':St) (H' G':Hp) (ys dW:List SK.D) (vs:List V),Inv (cX X N' sc s3 H3 fp pins) [] σ' H' s'/\tn i s'.heap/\(∀ b∈fp,H' b=none)/\Step G2 H2 G' H'/\G' D=none/\H' D=some (.lst vs)/\aE X.K ad G' ys vs/\
   bZ (d9 k cs fc fe) (ds.drop i)=some dW/\ys++dW=all/\i<=ds.length/\n=ds.length - i/\ys.length<=i/\SL X.K ad G' (hid D H') (ao nt .no++cs) σ':=⟨_,fun _ _=>Iff.rfl⟩
  refine nB Iv ?_ ds.length
   ((hIv _ _).mpr ⟨0,σc,H3,G2,[],all,[],I4,st4,fun b hb=>(f3 b hb).1,hstep3,lL hG2 hD,hH3D,aE.nil,hgo,rfl,bu _,rfl,ak _,by rw [<-eH,sP,aGp hD];exact hsl⟩)
  intro n s5 hI5
  obtain⟨i,σ5,H5,G5,ys,dW,vs,I5,st5,fr5,sp5,gD5,hD5,r5,go5,eq5,hi5,rfl,hy5,sl5⟩:=(hIv _ _).mp hI5
  by_cases hlt:i<ds.length
  ·-- a turn
   have ed:ds[i]? =some ds[i]:=by simp [hlt]
   generalize ds[i]=d at ed
   have edrop:ds.drop i=d::ds.drop (i+1):=by
    rw [List.drop_eq_getElem_cons hlt]
    congr 1
    have:=ay.mp ed
    exact this.2
   rw [edrop] at go5
   obtain⟨go,yl⟩:=hit.go i G5 H5 d sp5 ed
   refine L2.thn (T.item (cX X N' sc s3 H3 fp pins) rfl rfl rfl hc i [] s5 σ5 H5 (fun _ _=>False) I5 (stat fr5) st5 go) fun r s6 hz_=> ?_
   obtain⟨u,hr,h6⟩:=hz_
   subst hr
   refine L2.thn h6 fun _ s7 hz_=> ?_
   obtain⟨x,H7,I7,r7,y7,st7,fr7⟩:=hz_
   obtain⟨G7,sp7,rx7⟩:=yl x H7 y7
   have I7':=I7.pinned (stat fr7) (T.obj _ _ st7)
   obtain⟨gD7,hD7⟩:=cL sp7 gD5 hD5
   have sl7:=sl5.step (f9 sp7 gD7)
   -- the target
   have hcomp: ∃ ts,tgt k d=some ts:=by
    cases z:tgt k d with
    | some ts=>exact⟨ts,rfl⟩
    | none=>
     exfalso
     rcases hV go5 with ⟨e,_⟩ | ⟨x',_,e,_,_⟩<;>(unfold d9 at e;rw [z] at e;cases e)
   obtain⟨ts,ets⟩:=hcomp
   obtain⟨htl,gt⟩:=aGo (W:=fun σ' H'=>H'=H7/\SL X.K ad G7 (hid D H7) (ts++cs) σ') ets hnt sp7.gh rx7 sl7 (fun σ' _ q=>⟨rfl,q⟩)
   refine L2.thn (hg s3 H3 pins _ s7 σ5 H7 x u _ I7' r7 gt) fun _ s8 hz_=> ?_
   obtain⟨σ8,H8,I8,e8,sl8⟩:=hz_
   subst e8
   -- again, at the turn's end
   have again: ∀ {s9:Shared} {H9 G9:Hp} {ys9 rest9:List SK.D} {vs9:List V},Inv (cX X N' sc s3 H3 fp pins) ([]++dO fp s7.heap) σ8 H9 s9->Step G2 H2 G9 H9->G9 D=none->H9 D=some (.lst vs9)->aE X.K ad G9 ys9 vs9->bZ (d9 k cs fc fe) (ds.drop (i+1))=some rest9->ys9++rest9=all->ys9.length<=i+1->
     SL X.K ad G9 (hid D H9) (ts++cs) σ8-> ∃ m,m<ds.length - i/\Iv m s9:=by
    intro s9 H9 G9 ys9 rest9 vs9 I9 sp9 gD9 hD9 r9 go9 eq9 hy9 sl9
    refine⟨ds.length - (i+1),by omega,(hIv _ _).mpr ⟨i+1,σ8,H9,G9,ys9,rest9,vs9,I9.unpinned,T.keep _ _ _ st7 fun b hb o e=>(I9.pin (b,o) (bt _ (bt _ (cN hb e)))).1,fun b hb=> ?_,sp9,gD9,hD9,r9,go9,eq9,by omega,rfl,hy9, ?_⟩⟩
    ·obtain⟨o,e,d'⟩:=T.obj _ _ st7 b hb
     exact(I9.pin (b,o) (bt _ (bt _ (cN hb e)))).2.1
    ·have:=sN sl9
     rwa [htl] at this
   have xpF:XP (cX X N' sc s3 H3 fp pins) ad σ8 (fun _ _=>False):=wN rfl
   have sp8:Step G2 H2 G7 H8:=sp5.trans sp7
   -- the element
   have elem: ∀ {s9:Shared} {H9 G9:Hp} (x':SK.D) (all':List SK.D),Inv (cX X N' sc s3 H3 fp pins) ([]++dO fp s7.heap) σ8 H9 s9->Step G7 H8 G9 H9->(fe (ts++cs)= .ok x'\/ ∃ l,fe (ts++cs)= .ow l/\x'= .lst l)->bZ (d9 k cs fc fe) (ds.drop (i+1))=some all'->dW=x'::all'->
     wpAny (model X.prog X.w) X.A (eval elt (cX X N' sc s3 H3 fp pins).env) (fun x s₄=>wpAny (model X.prog X.w) X.A (call (.builtin "list.append") [.ref D,x]) (fun _ s₅=> ∃ m,m<ds.length - i/\Iv m s₅) (fun _ _=>False) s₄) (fun _ _=>False) s9:=by
    intro s9 H9 G9 x' all' I9 sp9 hf hgo' hrest
    obtain⟨gD9,hD9⟩:=cL sp9 gD7 hD7
    have sl9:=sl8.step (f9 sp9 gD9)
    refine L2.thn (ME.val (X:=cX X N' sc s3 H3 fp pins) (he s3 H3 pins) I9 sp9.gh (sl9.up sO) xpF hf) fun u10 s10 hz_=> ?_
    obtain⟨v10,G10,H10,I10,r10,sp10,q10⟩:=hz_
    obtain⟨gD10,hD10⟩:=cL sp10 gD9 hD9
    have hlen:vs.length<sizeLine:=by
     have:=r5.length
     omega
    refine L2.thn (eV (X:=cX X N' sc s3 H3 fp pins) _ s10 σ8 H10 (.ref D) [v10] (.ref D) [u10] (fun _ H'=>H'=upd H10 D (.lst (vs++[v10]))) I10 rfl (.cons r10 .nil) ⟨D,vs,v10,rfl,rfl,hD10,hlen,rfl⟩) fun _ s11 hz_=> ?_
    obtain⟨_,H11,I11,_,e11⟩:=hz_
    subst e11
    have spT:Step G2 H2 G10 H10:=(sp8.trans sp9).trans sp10
    have spA:Step G2 H2 G10 (upd H10 D (.lst (vs++[v10]))):=lR spT hD gD10
    have rA:aE X.K ad G10 (ys++[x']) (vs++[v10]):=((r5.mono sp7.sg).mono sp9.sg).mono sp10.sg |>.append (aE.cons q10 aE.nil)
    have slA:SL X.K ad G10 (hid D (upd H10 D (.lst (vs++[v10])))) (ts++cs) σ8:=by
     rw [sP]
     exact sl9.step (f9 sp10 gD10)
    refine again I11 spA gD10 aC rA hgo' ?_ (by simp;omega) slA
    rw [List.append_assoc]
    rw [hrest] at eq5
    exact eq5
   rcases hV go5 with ⟨e,hgo'⟩ | ⟨x',all',e,hgo',hrest⟩
   ·-- left out
    unfold d9 at e
    rw [ets] at e
    cases fc with
    | none=>
     exfalso
     simp only at e
     cases z:fe (ts++cs)<;>rw [z] at e<;>cases e
    | some f0=>
     simp only at e
     have hT:=hts s3 H3 pins
     match ifs,hT with
     | [c0],hT=>
      have hv:f0 (ts++cs)= .ok (.bl false):=by
       cases z:f0 (ts++cs) with
       | ok dd=>
        rw [z] at e
        cases dd<;>try (cases e)
        rename_i bb
        cases bb with
        | false=>rfl
        | true=>
         exfalso
         simp only at e
         cases z':fe (ts++cs)<;>rw [z'] at e<;>cases e
       | ow _=>rw [z] at e;cases e
       | ex _=>rw [z] at e;cases e
       | bad=>rw [z] at e;cases e
      refine wpAny_tests_one (L2.thn (MT.val (X:=cX X N' sc s3 H3 fp pins) hT I8 sp7.gh (sl8.up sO) xpF hv) fun ok s9 hz_=> ?_)
      obtain⟨eb,G9,H9,I9,sp9⟩:=hz_
      subst eb
      obtain⟨gD9,hD9⟩:=cL sp9 gD7 hD7
      exact q0 (again I9 (sp8.trans sp9) gD9 hD9 ((r5.mono sp7.sg).mono sp9.sg) hgo' eq5 (by omega) (sl8.step (f9 sp9 gD9)))
     | [],hT=>exact hT.elim
     | _::_::_,hT=>exact hT.elim
   ·-- taken
    unfold d9 at e
    rw [ets] at e
    cases fc with
    | none=>
     have hT:=hts s3 H3 pins
     match ifs,hT with
     | [],_=>
      refine wpAny_tests_nil (p8 ?_)
      refine elem x' all' I8 (Step.refl sp7.gh) ?_ hgo' hrest
      simp only at e
      cases z:fe (ts++cs) with
      | ok dd=>rw [z] at e;cases e;exact .inl rfl
      | ow l=>rw [z] at e;cases e;exact .inr ⟨l,rfl,rfl⟩
      | ex _=>rw [z] at e;cases e
      | bad=>rw [z] at e;cases e
     | _::r1,hT=>cases r1<;>exact ba hT
    | some f0=>
     simp only at e
     have hT:=hts s3 H3 pins
     match ifs,hT with
     | [c0],hT=>
      have hv:f0 (ts++cs)= .ok (.bl true)/\(fe (ts++cs)= .ok x'\/ ∃ l,fe (ts++cs)= .ow l/\x'= .lst l):=by
       cases z:f0 (ts++cs) with
       | ok dd=>
        rw [z] at e
        cases dd<;>try (cases e)
        rename_i bb
        cases bb with
        | false=>simp only at e;cases e
        | true=>
         simp only at e
         refine⟨rfl, ?_⟩
         cases z':fe (ts++cs) with
         | ok dd=>rw [z'] at e;cases e;exact .inl rfl
         | ow l=>rw [z'] at e;cases e;exact .inr ⟨l,rfl,rfl⟩
         | ex _=>rw [z'] at e;cases e
         | bad=>rw [z'] at e;cases e
       | ow _=>rw [z] at e;cases e
       | ex _=>rw [z] at e;cases e
       | bad=>rw [z] at e;cases e
      refine wpAny_tests_one (L2.thn (MT.val (X:=cX X N' sc s3 H3 fp pins) hT I8 sp7.gh (sl8.up sO) xpF hv.1) fun ok s9 hz_=> ?_)
      obtain⟨eb,G9,H9,I9,sp9⟩:=hz_
      subst eb
      exact p8 (elem x' all' I9 sp9 hv.2 hgo' hrest)
     | [],hT=>exact hT.elim
     | _::_::_,hT=>exact hT.elim
  ·-- the end
   have ei:i=ds.length:=by omega
   subst ei
   rw [List.drop_length] at go5
   cases go5
   rw [List.append_nil] at eq5
   subst eq5
   refine L2.thn (T.done (cX X N' sc s3 H3 fp pins) rfl rfl rfl hc ds.length [] s5 σ5 H5 (fun _ _=>False) I5 (stat fr5) st5 (hit.stop G5 H5 sp5)) fun r s6 hz_=> ?_
   obtain⟨hr,I6⟩:=hz_
   subst hr
   exact hEnd s3 s6 H3 H5 G5 σ5 D vs I3 f3 I6 sp5 hD gD5 hD5 r5
 exact codeAny_compStart_list (loop _ rfl) (T.self _ 0 _ _ _ st4 (loop _ rfl))
theorem i6 {C:Ctx} {cs:List Nat} {nt:Nat} (hxs:xs.length=nt) (hN:X.N=C.N) (hcs:cV (fun x=>dD C x) (aN sc)=some cs) (hfr: ∀ x∈aN sc,(x,NameKind.free)∈sc.names) (hS:SL X.K ad G H ρ σ) (hlen:σ.length=X.N.length):
  ∃ σc:St,σc.length=(xs++aN sc).length/\(∀ (i:Nat) (x:Str) (v:V),(xs++aN sc)[i]? =some x->σc[i]? =some (some v)-> ∃ j:Nat,X.N[j]? =some x/\σ[j]? =some (some v)/\(x,NameKind.free)∈sc.names)/\
   SL X.K ad G H (ao nt .no++q8 cs ρ) σc:=by
 have key: ∀ (ys:List Str) (js:List Nat),cV (fun x=>dD C x) ys=some js->js.length=ys.length/\ ∀ (i:Nat) (y:Str),ys[i]? =some y-> ∃ j,js[i]? =some j/\C.N[j]? =some y:=by
  intro ys
  induction ys with
  | nil=>intro js e;cases e;exact⟨rfl,fun i y h=>by simp at h⟩
  | cons y r ih=>
   intro js e
   unfold cV at e
   cases e1:dD C y with
   | none=>rw [e1] at e;cases e
   | some j=>
    rw [e1] at e
    obtain⟨js',e2,e3⟩:=zMd e
    subst e3
    obtain⟨i1,i2⟩:=ih js' e2
    refine⟨by simp [i1],fun i z h=> ?_⟩
    cases i with
    | zero=>
     simp at h
     subst h
     refine⟨j,rfl, ?_⟩
     have hidx:idx y C.N=some j:=by
      unfold dD at e1
      split at e1
      ·exact e1
      ·exact e1
      ·cases e1
     exact dC hidx
    | succ i=>
     obtain⟨j',h1,h2⟩:=i2 i z (by simpa using h)
     exact⟨j',by simpa using h1,h2⟩
 obtain⟨k1,k2⟩:=key (aN sc) cs hcs
 refine⟨ao nt none++cs.map (fun j=>(σ[j]?).getD none),by simp [k1,hxs],fun i x v h1 h2=> ?_, ?_,fun i sl e=> ?_⟩
 ·by_cases hi:i<nt
  ·rw [bv (by simpa using hi),List.getElem?_replicate,if_pos hi] at h2
   cases h2
  ·rw [bo (by simpa using hi),List.length_replicate,List.getElem?_map] at h2
   rw [bo (by omega),hxs] at h1
   obtain⟨j,j1,j2⟩:=k2 (i - nt) x h1
   rw [j1] at h2
   have h3:(σ[j]?).getD none=some v:=Option.some.inj h2
   refine⟨j,by rw [hN];exact j2, ?_,hfr x (List.mem_of_getElem? h1)⟩
   cases q:σ[j]? with
   | none=>rw [q] at h3;cases h3
   | some ov=>rw [q] at h3;exact congrArg some h3
 ·simp [q8]
 ·by_cases hi:i<nt
  ·rw [bv (by simpa using hi),List.getElem?_replicate,if_pos hi] at e
   cases e
   refine⟨none, ?_,trivial⟩
   rw [bv (by simpa using hi),List.getElem?_replicate,if_pos hi]
  ·rw [bo (by simpa using hi),List.length_replicate] at e
   unfold q8 at e
   rw [List.getElem?_map] at e
   cases q:cs[i - nt]? with
   | none=>rw [q] at e;cases e
   | some j=>
    rw [q] at e
    have e':(ρ[j]?).getD .no=sl:=Option.some.inj e
    refine⟨(σ[j]?).getD none, ?_, ?_⟩
    ·rw [bo (by simpa using hi),List.length_replicate,List.getElem?_map,q]
     rfl
    ·cases q2:ρ[j]? with
     | none=>rw [q2] at e';subst e';trivial
     | some sl'=>
      rw [q2] at e'
      have e'':sl'=sl:=e'
      subst e''
      obtain⟨ov,z1,z2⟩:=hS.at_ j sl' q2
      rw [z1]
      exact z2
end
open PySem.W
noncomputable def Its (x:Str):It:=⟨fun i _=>i<x.cps.size,fun i H v H'=>H'=H/\ ∃ c,x.cps[i]? =some c/\v= .str ⟨#[c]⟩,fun i _=>x.cps.size<=i⟩
theorem wQ {P:Program} {w:World} {K:PySem.W.Frag} {tg:Expr} {x:Str} {t:Tok} {ty:String} (it:Addr) (hty:ty="str_ascii_iterator"\/ty="str_iterator"):Turn P w K tg (Its x) [it] it (fun i h=>h.IsStrIter it ty x t i) where
 mem:=by simp
 obj:=fun i h st b hb=>by
  have e:b=it:=by simpa using hb
  subst e
  obtain⟨o,e,c,d⟩:=st
  exact⟨o,e,fun v z=>by rw [d] at z;cases z⟩
 keep:=fun i h h' st k=>by
  obtain⟨o,e,r⟩:=st
  exact⟨o,k it (by simp) o e,r⟩
 item:=by
  intro X hP hw hK hc i pins s σ H E I hf st hg
  subst hP hw hK
  have hi:i<x.cps.size:=hg
  obtain⟨f0,f1,f2,f3,f4,f5⟩:=hf it (by simp)
  have fin: ∀ (h':Heap),h'.IsStrIter it ty x t (i+1)->(∀ b o,b≠it->s.heap.get? b=some o->h'.get? b=some o)-> ∀ (tk:Nat) (u:Tok), ∃ u',(some (Value.str ⟨#[x.cps[i]]⟩ u):Option Value)=some u'/\wpAny (model X.prog X.w) X.A (letOwnedTupleGo tg (.ref it) u') (fun _ s2=> ∃ y H',Inv X pins σ H' s2/\aP y u'/\(Its x).yld i H y H'/\s2.heap.IsStrIter it ty x t (i+1)/\ ∀ b∈[it],H' b=none) E { s with heap:=h',toks:=tk }:=by
   intro h' st' sb tk u
   have I1:Inv X pins σ H { s with heap:=h',toks:=tk }:=I.turned (t':=tk) (fun b o hb e=>sb b o hb e) f0 f1 f3 f4 f5
   obtain⟨o,e,c,d⟩:=id st'
   refine⟨_,rfl,vY (s:={ s with heap:=h',toks:=tk }) e c d (by rcases hty with rfl | rfl<;>decide) ⟨.str ⟨#[x.cps[i]]⟩,H,I1,⟨u,rfl⟩,⟨rfl,_,by simp [hi],rfl⟩,st',fun b hb=>(hf b hb).1⟩⟩
  rcases hty with rfl | rfl
  ·exact wpAny_pyNext_ascii_item st (c:=x.cps[i]) (by simp [hi]) fun h' hit' hs'=>fin h' hit' (fun b o hb e=>hs'.extBut b o hb e) _ _
  ·exact wpAny_pyNext_wide_item st (c:=x.cps[i]) (by simp [hi]) fun h' hit' hs'=>fin h' hit' (fun b o hb e=>hs'.extBut b o hb e) _ _
 done:=by
  intro X hP hw hK hc i pins s σ H E I hf st hg
  subst hP hw hK
  have hi:x.cps.size<=i:=hg
  obtain⟨f0,f1,f2,f3,f4,f5⟩:=hf it (by simp)
  rcases hty with rfl | rfl
  ·exact wpAny_pyNext_ascii_end (I.ok.hd hc) st (by simp [hi]) fun h' he'=>⟨rfl,I.turned (t':=s.toks) (fun b o hb e=>he' b o hb e) f0 f1 f3 f4 f5⟩
  ·exact wpAny_pyNext_wide_end (I.ok.hd hc) st (by simp [hi]) fun h' he'=>⟨rfl,I.turned (t':=s.toks) (fun b o hb e=>he' b o hb e) f0 f1 f3 f4 f5⟩
 self:=fun A i s Q E st h=>by
  rcases hty with rfl | rfl
  ·exact wpAny_pyIter_striter_ascii st h
  ·exact wpAny_pyIter_striter_wide st h
section
variable {X:Cx} {ad:Ad} {pins:List (Addr×Obj)} {s:Shared} {σ:St} {H G:Hp} {ρ:Rho} {Q:VK} {E:Nat->Hp->Prop} {pos p:Pos} {a b c e:Expr} {f g h:F} {tg:Expr}
theorem aBv {x:Str} (hG:Same G H) (few:x.cps.size<=1000):ItH X ad (Its x) G H (qA x):=by
 have hl:(qA x).length=x.cps.size:=by simp [qA]
 refine⟨fun i G1 H1 d st e=> ?_,fun G1 H1 st=>by rw [hl];exact ak _,by rw [hl];exact Nat.le_trans few (by decide)⟩
 have e': ∃ c,x.cps.toList[i]? =some c/\D.str ⟨#[c]⟩=d:=by simpa [qA] using e
 obtain⟨c,e1,rfl⟩:=e'
 have e2:x.cps[i]? =some c:=by simpa using e1
 refine⟨(Array.getElem?_eq_some_iff.mp e2).1,fun v H2 hv=> ?_⟩
 obtain⟨rfl,c',h1,rfl⟩:=hv
 rw [e2] at h1
 cases h1
 exact⟨G1,Step.refl st.gh,by unfold Rep;rfl⟩
end
section
variable {X:Cx} {ad:Ad} {pins:List (Addr×Obj)} {s s2 s3:Shared} {σ:St} {H H2 H3 G G2:Hp} {ρ:Rho} {Q:VK} {E:Nat->Hp->Prop} {pos:Pos} {sc:Scope} {N':List Str} {fp:List Addr}
 {tg it elt:Expr} {ifs:List Expr} {k nt:Nat} {xs:List Str} {cs:List Nat} {fc:Option F} {fi fe:F}
theorem wR (h: ∀ a b c,it≠ .Set a b c): ∀ x,foldedSetIterable it X.env x=pure x:=by
 intro x
 cases it<;>first | rfl | exact absurd rfl (h _ _ _)
structure CompSc (X:Cx) (C:Ctx) (sc:Scope) (xs:List Str) (cs:List Nat):Prop where
 kind:sc.kind= .function
 cell:Cel sc
 names: ∀ y∈sc.names,y.2= .local->sc.names.lookup y.1=some .local
 fre: ∀ x,(x,NameKind.free)∈sc.names->X.env.kindOf x=some .cell\/X.env.kindOf x=some .free
 frl: ∀ x,(x,NameKind.free)∈sc.names->sc.names.lookup x=some .free
 N:X.N=C.N
 cs:cV (fun x=>dD C x) (aN sc)=some cs
theorem lU {x:Str} (h:x∈aN sc):(x,NameKind.free)∈sc.names:=by
 unfold aN at h
 obtain⟨p,hp,rfl⟩:=au.mp h
 obtain⟨h1,h2⟩:=List.mem_filter.mp hp
 obtain⟨y,kk⟩:=p
 have:kk= .free:=by simpa using h2
 subst this
 exact h1
theorem aGq {W:It->Hp->Prop} (hr:RK X.K ad G H (eW k cs fi fc fe ρ) Q E)
  (q: ∀ J G2 H2 ds all,Step G H G2 H2->ItH X ad J G2 H2 ds->bZ (d9 k (q8 cs ρ) fc fe) ds=some all->RK X.K ad G2 H2 (.ow all) Q E->W J H2):IK X ad G H (fi ρ) W E:=by
 unfold eW at hr
 cases e:fi ρ with
 | ok d=>
  rw [e] at hr
  have hr':RK X.K ad G H (match lF d with | some ds=>(match bZ (d9 k (q8 cs ρ) fc fe) ds with | some xs=> .ow xs | none=> .bad) | none=> .bad) Q E:=hr
  cases e2:lF d with
  | none=>rw [e2] at hr';exact hr'.elim
  | some ds=>
   rw [e2] at hr'
   have hr2:RK X.K ad G H (match bZ (d9 k (q8 cs ρ) fc fe) ds with | some xs=> .ow xs | none=> .bad) Q E:=hr'
   cases e3:bZ (d9 k (q8 cs ρ) fc fe) ds with
   | none=>rw [e3] at hr2;exact hr2.elim
   | some all=>
    rw [e3] at hr2
    exact⟨ds,e2,fun J G' H' st hi=>q J G' H' ds all st hi e3 (RK.step hr2 st)⟩
 | ow l=>
  rw [e] at hr
  have hr2:RK X.K ad G H (match bZ (d9 k (q8 cs ρ) fc fe) l with | some xs=> .ow xs | none=> .bad) Q E:=hr
  cases e3:bZ (d9 k (q8 cs ρ) fc fe) l with
  | none=>rw [e3] at hr2;exact hr2.elim
  | some all=>
   rw [e3] at hr2
   exact fun J G' H' st hi=>q J G' H' l all st hi e3 (RK.step hr2 st)
 | ex c=>rw [e] at hr;exact hr
 | bad=>rw [e] at hr;exact hr
theorem aBw {C:Ctx} (hc:X.calm=true) (S:CompSc X C sc xs cs) (hi:MI X ad tg it fi) (hset: ∀ a b c,it≠ .Set a b c) (hxs:xs.length=if k=0 then 1 else k)
  (hg: ∀ fp s3 H3 pins',PG (cX X (xs++aN sc) sc s3 H3 fp pins') tg (gTg X.K k)) (hts: ∀ fp s3 H3 pins',MTs (cX X (xs++aN sc) sc s3 H3 fp pins') ad ifs fc) (he: ∀ fp s3 H3 pins',ME (cX X (xs++aN sc) sc s3 H3 fp pins') ad elt fe):
  ME X ad (.ListComp elt [⟨tg,it,ifs,0⟩] sc pos) (eW k cs fi fc fe):=by
 intro pins s σ H Q I ⟨G,ρ,E,hG,hS,hx,hr⟩
 rw [eval_ListComp]
 have hcl:closureFor sc X.env=pure (hJ X.env.cells sc.names []):=fI fun x hx=>by
  obtain⟨c,h⟩:=I.ok.has x (S.fre x hx)
  rw [h];rfl
 refine wpAny_comprehension_free (use:=none) rfl (wR hset) hcl S.kind S.names ?_
 show wpAny (model X.prog X.w) X.A (eval it X.env) _ X.xe s
 refine L2.thn (hi pins s σ H _ I ⟨G,ρ,E,hG,hS,hx,aGq (W:=fun J H2=> ∃ G2 ds all,Step G H G2 H2/\ItH X ad J G2 H2 ds/\bZ (d9 k (q8 cs ρ) fc fe) ds=some all/\RK X.K ad G2 H2 (.ow all) Q E) hr fun J G2 H2 ds all a b c d=>⟨G2,ds,all,a,b,c,d⟩⟩) fun v s1 h1=>
  L2.thn h1 fun itv s2 hz_=> ?_
 obtain⟨itA,fp,tn,J,H2,e,I2,T,st2,f2,G2,ds,all,sp,hit,hgo,hr2⟩:=hz_
 subst e
 obtain⟨σc,l1,l2,l3⟩:=i6 (xs:=xs) (sc:=sc) (nt:=if k=0 then 1 else k) hxs S.N S.cs (fun x h=>lU h) (hS.step sp) I2.len
 refine lT (σc:=σc) hc I2 T st2 f2 hit hgo sp.gh S.kind S.cell S.fre S.frl l1 l2 rfl l3 (hg fp) (hts fp) (he fp) fun s3 s' H3 H' G' σ' D vs I3 f3 J' sp' hD gD hD' r'=> ?_
 obtain⟨m,hns,_⟩:=J'.loc
 refine⟨m,hns,fun h' sb=>⟨.ref D,H',zF (fpO:=f3) I3 J' sb,rfl,hr2 D vs G' H' sp' hD gD hD' r'⟩⟩
theorem aBx {a:Addr} {vs:List V} {ds:List D} (hq:SqT X.K H a vs) (r:aE X.K ad G ds vs) (hG:Same G H) (few:vs.length<=sizeLine):ItH X ad (Itt X.K a) G H ds:=by
 refine⟨fun i G1 H1 d st e=> ?_,fun G1 H1 st=>⟨vs,st.sh.seqT hq,by rw [r.length];exact ak _⟩,by rw [<-r.length];exact few⟩
 obtain⟨v,e1,r1⟩:=r.get e
 refine⟨⟨vs,v,st.sh.seqT hq,e1⟩, ?_⟩
 rintro x H2 ⟨rfl,y⟩
 have:=y vs (st.sh.seqT hq)
 rw [e1] at this
 cases this
 exact⟨G1,Step.refl st.gh,r1.mono st.sg⟩
theorem aBy {a:Addr} {vs:List V} {ds:List D} (hq:SqL X.K H a vs) (r:aE X.K ad G ds vs) (hG:Same G H) (few:vs.length<=sizeLine):ItH X ad (Itl X.K a) G H ds:=by
 refine⟨fun i G1 H1 d st e=> ?_,fun G1 H1 st=>⟨vs,st.sh.seq hq,by rw [r.length];exact ak _⟩,by rw [<-r.length];exact few⟩
 obtain⟨v,e1,r1⟩:=r.get e
 refine⟨⟨vs,v,st.sh.seq hq,e1⟩, ?_⟩
 rintro x H2 ⟨rfl,y⟩
 have:=y vs (st.sh.seq hq)
 rw [e1] at this
 cases this
 exact⟨G1,Step.refl st.gh,r1.mono st.sg⟩
theorem sQ {a:Expr} {f:F} (ha:ML X ad a f):MI X ad tg a f:=by
 intro pins s σ H W I ⟨G,ρ,E,hG,hS,hx,hr⟩
 -- the value, then its iterator
 have key0: ∀ (d:D) (ds:List D),items d=some ds->(∀ J G' H',Step G H G' H'->ItH X ad J G' H' ds->W J H')-> ∀ u s1 v H1 G1,Inv X pins σ H1 s1->aP v u->Step G H G1 H1->Seq X ad G1 H1 d v->wpAny (model X.prog X.w) X.A (pyIter u) (PIE X pins σ tg W) X.xe s1:=by
  intro d ds e hw u s1 v H1 G1 I1 r1 st q
  obtain⟨p,vs,rfl,hq,rq⟩:=q.items st.gh e
  cases (show u=Value.ref p from r1)
  rcases hq with ⟨_,hq⟩ | ⟨_,hq⟩
  ·obtain⟨its,rv,pt,hz⟩:=I1.tuple hq
   refine wpAny_pyIter_tuple (show s1.heap.IsTuple p its.toArray from pt) ?_
   refine⟨s1.heap.objs.size,[s1.heap.objs.size],_,_,H1,rfl,I1.kept (t':=s1.toks) fun b o e=>ag _ e,iU p _,⟨_,ah _ rfl,rfl,rfl⟩,fun b hb=> ?_,hw _ G1 H1 st (aBx hq rq st.gh hz)⟩
   have e:b=s1.heap.objs.size:=by simpa using hb
   subst e
   exact I1.fpOk (ak _) (I1.hok.fresh (ak _))
  ·obtain⟨its,rv,pt,hz⟩:=I1.list hq
   refine wpAny_pyIter_list pt.isList ?_
   refine⟨s1.heap.objs.size,[s1.heap.objs.size],_,_,H1,rfl,I1.kept (t':=s1.toks) fun b o e=>ag _ e,gP p _,⟨_,ah _ rfl,rfl,rfl⟩,fun b hb=> ?_,hw _ G1 H1 st (aBy hq rq st.gh hz)⟩
   have e:b=s1.heap.objs.size:=by simpa using hb
   subst e
   exact I1.fpOk (ak _) (I1.hok.fresh (ak _))
 have key: ∀ (d:D) (ds:List D),lF d=some ds->(∀ J G' H',Step G H G' H'->ItH X ad J G' H' ds->W J H')-> ∀ u s1 v H1 G1,Inv X pins σ H1 s1->aP v u->Step G H G1 H1->Seq X ad G1 H1 d v->wpAny (model X.prog X.w) X.A (pyIter u) (PIE X pins σ tg W) X.xe s1:=by
  intro d ds e hw u s1 v H1 G1 I1 r1 st q
  cases d with
  | tup xs=>exact key0 (.tup xs) ds (show items (.tup xs)=some ds from e) hw u s1 v H1 G1 I1 r1 st q
  | lst xs=>exact key0 (.lst xs) ds (show items (.lst xs)=some ds from e) hw u s1 v H1 G1 I1 r1 st q
  | str x=>
   have e':(if x.cps.size<=1000 then some (qA x) else none)=some ds:=e
   by_cases hl:x.cps.size<=1000
   ·rw [if_pos hl] at e'
    cases e'
    have q':Rep X.K ad G1 (.str x) v:=by
     rcases q with q | ⟨_,_,_,z,_⟩
     ·exact q
     ·cases z
    unfold Rep at q'
    subst q'
    obtain⟨t,rfl⟩:=(show ∃ t,u=Value.str x t from r1)
    have go: ∀ (ty:String) (o:Obj),(ty="str_ascii_iterator"\/ty="str_iterator")->(s1.heap.push o).IsStrIter s1.heap.objs.size ty x t 0->PIE X pins σ tg W (.ref s1.heap.objs.size) { s1 with heap:=s1.heap.push o }:=fun ty o hty hst=>by
     refine⟨s1.heap.objs.size,[s1.heap.objs.size],_,_,H1,rfl,I1.kept (t':=s1.toks) fun b o e=>ag _ e,wQ _ hty,hst,fun b hb=> ?_,hw _ G1 H1 st (aBv st.gh hl)⟩
     have e:b=s1.heap.objs.size:=by simpa using hb
     subst e
     exact I1.fpOk (ak _) (I1.hok.fresh (ak _))
    cases hA:x.cps.all (· <128)
    ·exact wpAny_pyIter_wide hA (go _ _ (.inr rfl) ⟨_,ah _ rfl,rfl,rfl⟩)
    ·exact wpAny_pyIter_ascii hA (go _ _ (.inl rfl) ⟨_,ah _ rfl,rfl,rfl⟩)
   ·rw [if_neg hl] at e'
    cases e'
  | _=>cases e
 cases e:f ρ with
 | ok d=>
  rw [e] at hr
  obtain⟨ds,e2,hw⟩:=hr
  exact L2.thn (ha pins s σ H (fun v H1=> ∃ G1,Step G H G1 H1/\Seq X ad G1 H1 d v) I ⟨G,ρ,E,hG,hS,hx,by rw [e];exact fun v G1 H1 st q=>⟨G1,st,q⟩⟩) fun u s1 ⟨v,H1,I1,r1,G1,st,q⟩=>key d ds e2 hw u s1 v H1 G1 I1 r1 st q
 | ow l=>
  rw [e] at hr
  exact L2.thn (ha pins s σ H (fun v H1=> ∃ G1,Step G H G1 H1/\Rep X.K ad G1 (.lst l) v) I ⟨G,ρ,E,hG,hS,hx,by rw [e];exact fun p vs G1 H1 st n m e' q=>bB st n m e' q⟩) fun u s1 ⟨v,H1,I1,r1,G1,st,q⟩=>key (.lst l) l rfl hr u s1 v H1 G1 I1 r1 st (.inl q)
 | ex c=>
  rw [e] at hr
  exact L2.thn (ha pins s σ H (fun v H1=>False) I ⟨G,ρ,E,hG,hS,hx,by rw [e];exact hr⟩) fun u s1 ⟨v,H1,I1,r1,q⟩=>q.elim
 | bad=>
  rw [e] at hr
  exact ba hr
theorem aBz {lo:Int} {n:Nat} (hG:Same G H) (few:n<=sizeLine):ItH X ad (Itr lo n) G H ((List.range n).map fun(i:Nat)=>D.int (lo+(i:Int))):=by
 refine⟨fun i G1 H1 d st e=> ?_,fun G1 H1 st=>by simp [Itr],by simpa using few⟩
 rw [List.getElem?_map] at e
 cases q:(List.range n)[i]? with
 | none=>rw [q] at e;cases e
 | some j=>
  rw [q] at e
  obtain⟨hi,hj⟩:=ay.mp q
  rw [List.length_range] at hi
  rw [List.getElem_range] at hj
  subst hj
  cases e
  refine⟨hi, ?_⟩
  rintro x H2 ⟨rfl,rfl⟩
  exact⟨G1,Step.refl st.gh,aO⟩
theorem sR (n:Nat):aFx n=(List.range n).map fun(i:Nat)=>D.int (0+(i:Int)):=by
 unfold aFx
 congr 1
 funext i
 rw [Int.zero_add]
theorem nC {f:F} {k:D->R} {W:It->Hp->Prop} {Q':VK} (hG:Same G H) (hS:SL X.K ad G H ρ σ) (hx:XP X ad σ E) (hr:IK X ad G H ((f ρ).bind k) W E)
  (q: ∀ v d G1 H1,Step G H G1 H1->Rep X.K ad G1 d v->IK X ad G1 H1 (k d) W E->Q' v H1):tE X ad f σ H Q':=by
 have ikst: ∀ {r:R} {G1 H1:Hp},IK X ad G H r W E->Step G H G1 H1->IK X ad G1 H1 r W E:=fun {r G1 H1} h st=>by
  cases r with
  | ok d=>obtain⟨ds,e,h⟩:=h;exact⟨ds,e,fun J G' H' st' hi=>h J G' H' (st.trans st') hi⟩
  | ow l=>exact fun J G' H' st' hi=>h J G' H' (st.trans st') hi
  | ex c=>exact fun G' H' st'=>h G' H' (st.trans st')
  | bad=>exact h
 refine⟨G,ρ,E,hG,hS,hx, ?_⟩
 cases e:f ρ with
 | ok d=>
  rw [e] at hr
  exact fun v G1 H1 st r=>q v d G1 H1 st r (ikst hr st)
 | ow xs=>
  rw [e] at hr
  intro p vs G1 H1 st n m e' r
  obtain⟨G2,st2,r2⟩:=bB (X:=X) (ad:=ad) st n m e' r
  exact q _ _ G2 H1 st2 r2 (ikst hr st2)
 | ex c=>
  rw [e] at hr
  exact hr
 | bad=>
  rw [e] at hr
  exact hr
theorem wS {a:Expr} {f:F} {p:Pos} (hg:L2.Gl X "range") (hm:X.mg "range"=none) (ha:ME X ad a f) (hs:starEach [a] X.env=(false,eval a X.env)::starEach [] X.env):MI X ad tg (.Call (.Name "range" p) [a] [] pos) (gX f):=by
 intro pins s σ H W I ⟨G,ρ,E,hG,hS,hx,hr⟩
 refine kJ (ta:=mQ (tE X ad f) aEh) hg hm (bU ha cI hs) hs pins s σ H W I ?_
 show tE X ad f σ H fun v H1=> ∃ j:Int,[v]=[.int j]/\ -(2 ^ 62)<=j/\j<2 ^ 62/\W (Itr 0 j.toNat) H1
 refine nC hG hS hx hr fun v d G1 H1 st r k=> ?_
 cases d<;>try exact ba k
 rename_i i
 unfold Rep at r;subst r
 have k':IK X ad G1 H1 (if -100000<=i/\i<=100000 then .ok (.lst (aFx i.toNat)) else .bad) W E:=k
 by_cases hc: -100000<=i/\i<=100000
 ·rw [if_pos hc] at k'
  obtain⟨ds,e,hw⟩:=k'
  cases e
  refine⟨i,rfl,by omega,by omega,hw _ G1 H1 (Step.refl st.gh) ?_⟩
  rw [sR]
  exact aBz st.gh (by rw [sizeLine_eq];omega)
 ·rw [if_neg hc] at k'
  exact k'.elim
end
def dZ (H:Hp) (ρ:Rho) (σ:St) (i:Nat) (as:List Addr):Prop:= ∃ C r p dx d l1 l2,ρ[i]? =some (Slot.rk C r)/\σ[i]? =some (some (V.ref p))/\H p=some (HO.ins C dx [("held",V.ref d),("done",V.ref l1),("undone",V.ref l2)])/\as=[p,dx,d,l1,l2]
structure RS (H₀ H:Hp) (ρ:Rho) (σ:St):Prop where
 h0: ∀ i as,dZ H ρ σ i as-> ∀ a∈as,H₀ a=none
 ow: ∀ i as,dZ H ρ σ i as-> ∀ a∈as, ∀ (j:Nat) (sl:Slot),ρ[j]? =some sl->sl.owns=true->σ[j]? ≠some (some (.ref a))
 rr: ∀ i j as as' a,dZ H ρ σ i as->dZ H ρ σ j as'->a∈as->a∈as'->i=j
section
variable {K:PySem.W.Frag} {ad:Ad} {G H H1 H₀:Hp} {ρ:Rho} {σ:St} {i:Nat} {as:List Addr}
theorem dZ.in (h:SL K ad G H ρ σ) (f:dZ H ρ σ i as): ∃ C r p dx d l1 l2,ρ[i]? =some (.rk C r)/\σ[i]? =some (some (V.ref p))/\RackIn K ad C G H p r dx d l1 l2/\as=[p,dx,d,l1,l2]:=by
 obtain⟨C,r,p,dx,d,l1,l2,e1,e2,e3,e4⟩:=f
 obtain⟨p',dx',d',l1',l2',q1,q2⟩:=h.rk e1
 rw [e2] at q1
 cases q1
 have:=q2.ins
 rw [e3] at this
 cases this
 exact⟨C,r,p,dx,d,l1,l2,e1,e2,q2,e4⟩
theorem dZ.at (h:SL K ad G H ρ σ) (f:dZ H ρ σ i as): ∀ a∈as,G a=none/\H a≠none:=by
 obtain⟨C,r,p,dx,d,l1,l2,e1,e2,q,rfl⟩:=f.in h
 obtain⟨kvs,a1,a2⟩:=q.held
 obtain⟨v1,b1,b2⟩:=q.done
 obtain⟨v2,c1,c2⟩:=q.undone
 intro a m
 simp only [av,List.not_mem_nil,or_false] at m
 rcases m with rfl | rfl | rfl | rfl | rfl
 ·exact⟨q.gp,by rw [q.ins];exact fun z=>nomatch z⟩
 ·exact⟨q.gx,by rw [q.own];exact fun z=>nomatch z⟩
 ·exact⟨q.gd,by rw [a1];exact fun z=>nomatch z⟩
 ·exact⟨q.g1,by rw [b1];exact fun z=>nomatch z⟩
 ·exact⟨q.g2,by rw [c1];exact fun z=>nomatch z⟩
theorem dZ.back (h:SL K ad G H ρ σ) (s:Same H H1) (f:dZ H1 ρ σ i as):dZ H ρ σ i as:=by
 obtain⟨C,r,p,dx,d,l1,l2,e1,e2,e3,e4⟩:=f
 obtain⟨p',dx',d',l1',l2',q1,q2⟩:=h.rk e1
 rw [e2] at q1
 cases q1
 have:=s _ _ q2.ins
 rw [e3] at this
 cases this
 exact⟨C,r,p,dx,d,l1,l2,e1,e2,q2.ins,e4⟩
theorem RS.same (R:RS H₀ H ρ σ) (h:SL K ad G H ρ σ) (s:Same H H1):RS H₀ H1 ρ σ:=
 ⟨fun i as f=>R.h0 i as (f.back h s),fun i as f=>R.ow i as (f.back h s),fun i j as as' a f f'=>R.rr i j as as' a (f.back h s) (f'.back h s)⟩
theorem dZ.unset {k:Nat} {sn:Slot} {ov:Option V} (w:sn.isRk=false) (f:dZ H (ρ.set i sn) (σ.set i ov) k as):k≠i/\dZ H ρ σ k as:=by
 obtain⟨C,r,p,dx,d,l1,l2,e1,e2,e3,e4⟩:=f
 have ne:k≠i:=fun z=>by
  subst z
  have hl:k<ρ.length:=by have:=(ay.mp e1).1;rwa [List.length_set] at this
  rw [bn hl] at e1
  cases e1
  cases w
 rw [bd (Ne.symm ne)] at e1 e2
 exact⟨ne,C,r,p,dx,d,l1,l2,e1,e2,e3,e4⟩
theorem RS.set {sn:Slot} {ov:Option V} (R:RS H₀ H ρ σ) (w:sn.isRk=false) (n: ∀ a,sn.owns=true->ov=some (.ref a)-> ∀ k as,dZ H ρ σ k as->a∉as):RS H₀ H (ρ.set i sn) (σ.set i ov):=by
 refine⟨fun k as f=>R.h0 k as (f.unset w).2,fun k as f a ha j sl e1 e2 e3=> ?_,fun k k' as as' a f f'=>R.rr k k' as as' a (f.unset w).2 (f'.unset w).2⟩
 by_cases z:j=i
 ·subst z
  have hl:j<ρ.length:=by have:=(ay.mp e1).1;rwa [List.length_set] at this
  have hl2:j<σ.length:=by have:=(ay.mp e3).1;rwa [List.length_set] at this
  rw [bn hl] at e1
  rw [bn hl2] at e3
  cases e1
  cases e3
  exact n a e2 rfl k as (f.unset w).2 ha
 ·rw [bd (Ne.symm z)] at e1 e3
  exact R.ow k as (f.unset w).2 a ha j sl e1 e2 e3
theorem dZ.reset {k:Nat} {sn:Slot} (w:sn.isRk=false) (f:dZ H (ρ.set i sn) σ k as):dZ H ρ σ k as:=by
 obtain⟨C,r,p,dx,d,l1,l2,e1,e2,e3,e4⟩:=f
 have ne:k≠i:=fun z=>by
  subst z
  have hl:k<ρ.length:=by have:=(ay.mp e1).1;rwa [List.length_set] at this
  rw [bn hl] at e1
  cases e1
  cases w
 rw [bd (Ne.symm ne)] at e1
 exact⟨C,r,p,dx,d,l1,l2,e1,e2,e3,e4⟩
theorem RS.re {sl₀ sn:Slot} (R:RS H₀ H ρ σ) (w:sn.isRk=false) (e:ρ[i]? =some sl₀) (w₀:sl₀.owns=true):RS H₀ H (ρ.set i sn) σ:=by
 refine⟨fun k as f=>R.h0 k as (f.reset w),fun k as f a ha j sl e1 e2 e3=> ?_,fun k k' as as' a f f'=>R.rr k k' as as' a (f.reset w) (f'.reset w)⟩
 by_cases z:j=i
 ·subst z
  exact R.ow k as (f.reset w) a ha j sl₀ e w₀ e3
 ·rw [bd (Ne.symm z)] at e1
  exact R.ow k as (f.reset w) a ha j sl e1 e2 e3
theorem RackIn.ups {C:Addr} {p:Addr} {r:Rk} {dx d l1 l2 a:Addr} {o:HO} (h:RackIn K ad C G H p r dx d l1 l2) (ha:a∉[p,dx,d,l1,l2]):RackIn K ad C G (upd H a o) p r dx d l1 l2:=by
 simp only [av,List.not_mem_nil,or_false,not_or] at ha
 obtain⟨n1,n2,n3,n4,n5⟩:=ha
 obtain⟨kvs,a1,a2⟩:=h.held
 obtain⟨v1,b1,b2⟩:=h.done
 obtain⟨v2,c1,c2⟩:=h.undone
 exact⟨by rw [aA (Ne.symm n1)];exact h.ins,by rw [aA (Ne.symm n2)];exact h.own,⟨kvs,by rw [aA (Ne.symm n3)];exact a1,a2⟩,⟨v1,by rw [aA (Ne.symm n4)];exact b1,b2⟩,⟨v2,by rw [aA (Ne.symm n5)];exact c1,c2⟩,h.ne,h.gp,h.gx,h.gd,h.g1,h.g2⟩
theorem RackIn.shr {C:Addr} {p:Addr} {r:Rk} {dx d l1 l2 a:Addr} {o:HO} (h:RackIn K ad C G H p r dx d l1 l2) (ha:a∉[p,dx,d,l1,l2]) (le:Same G (upd G a o)):RackIn K ad C (upd G a o) H p r dx d l1 l2:=by
 simp only [av,List.not_mem_nil,or_false,not_or] at ha
 obtain⟨n1,n2,n3,n4,n5⟩:=ha
 obtain⟨kvs,a1,a2⟩:=h.held
 obtain⟨v1,b1,b2⟩:=h.done
 obtain⟨v2,c1,c2⟩:=h.undone
 exact⟨h.ins,h.own,⟨kvs,a1,a2.mono le⟩,⟨v1,b1,b2.mono le⟩,⟨v2,c1,c2.mono le⟩,h.ne,by rw [aA (Ne.symm n1)];exact h.gp,by rw [aA (Ne.symm n2)];exact h.gx,by rw [aA (Ne.symm n3)];exact h.gd,by rw [aA (Ne.symm n4)];exact h.g1,by rw [aA (Ne.symm n5)];exact h.g2⟩
end
structure SS (X:Cx) (ad:Ad) (G₀ G H:Hp) (ρ:Rho) (σ:St):Prop where
 st:Step G₀ X.H₀ G H
 sl:SL X.K ad G H ρ σ
 ow: ∀ (i:Nat) (sl:Slot) (a:Addr),ρ[i]? =some sl->sl.owns=true->σ[i]? =some (some (.ref a))->X.H₀ a=none
 dj: ∀ (i j:Nat) (sl sl':Slot) (a:Addr),ρ[i]? =some sl->ρ[j]? =some sl'->sl.owns=true->sl'.owns=true->σ[i]? =some (some (.ref a))->σ[j]? =some (some (.ref a))->i=j
 rs:RS X.H₀ H ρ σ
def OKo (X:Cx) (ad:Ad) (G₀:Hp) (o:Out) (D':Ends) (E:St->Nat->Hp->Prop):Prop:=match o with
 | .nx ρ=> ∀ σ G H,SS X ad G₀ G H ρ σ->D'.nx σ H
 | .bk ρ=> ∀ σ G H,SS X ad G₀ G H ρ σ->D'.bk σ H
 | .ct ρ=> ∀ σ G H,SS X ad G₀ G H ρ σ->D'.ct σ H
 | .ex c ρ=> ∀ σ G H,SS X ad G₀ G H ρ σ->E σ c H
 | .rt (.ok d)=> ∀ v G H,Step G₀ X.H₀ G H->Rep X.K ad G d v->D'.rt v H
 | .rt (.ow xs)=> ∀ p vs G H,Step G₀ X.H₀ G H->X.H₀ p=none->G p=none->H p=some (.lst vs)->aE X.K ad G xs vs->D'.rt (.ref p) H
 | .rt _=>False
def XA (X:Cx) (ad:Ad) (Z:(St->Nat->Hp->Prop)->Prop) (E:St->Nat->Hp->Prop):Prop:=(∀ σ,XP X ad σ (E σ))/\Z E
noncomputable def tS (X:Cx) (ad:Ad) (Z:(St->Nat->Hp->Prop)->Prop) (g:FS):TS:=fun D' σ H=> ∃ G₀ G ρ E,SS X ad G₀ G H ρ σ/\XA X ad Z E/\OKo X ad G₀ (g ρ) D' E
abbrev MS (X:Cx) (ad:Ad) (Z:(St->Nat->Hp->Prop)->Prop) (st:Stmt) (g:FS):Prop:=PS X st (tS X ad Z g)
abbrev MSs (X:Cx) (ad:Ad) (Z:(St->Nat->Hp->Prop)->Prop) (st:List Stmt) (g:FS):Prop:=PSs X st (tS X ad Z g)
section
variable {X:Cx} {ad:Ad} {Z:(St->Nat->Hp->Prop)->Prop} {pins:List (Addr×Obj)} {s:Shared} {σ:St} {H G G₀:Hp} {ρ:Rho} {D':Ends} {E:St->Nat->Hp->Prop} {pos pos':Pos} {e:Expr} {f:F} {g h:FS} {st:Stmt} {sts:List Stmt}
theorem SS.step {G1 H1:Hp} (S:SS X ad G₀ G H ρ σ) (t:Step G H G1 H1):SS X ad G₀ G1 H1 ρ σ:=⟨S.st.trans t,S.sl.step t,S.ow,S.dj,S.rs.same S.sl t.sh⟩
theorem fJ {G₀ Gs G H H₀ Hs:Hp} (a:Step G₀ H₀ Gs Hs) (b:Step Gs H₀ G H):Step G₀ H₀ G H:=
 ⟨a.sg.trans b.sg,b.gh,b.sh,fun x h1 h2=>by
  cases q:Gs x with
  | none=>exact b.nw x q h2
  | some o=>exact a.nw x h1 (by rw [q];exact fun z=>nomatch z)⟩
theorem SS.up {Gs Hs:Hp} (a:Step G₀ X.H₀ Gs Hs) (S:SS X ad Gs G H ρ σ):SS X ad G₀ G H ρ σ:=⟨fJ a S.st,S.sl,S.ow,S.dj,S.rs⟩
theorem SS.here (S:SS X ad G₀ G H ρ σ):SS X ad G G H ρ σ:=⟨⟨Same.refl _,S.st.gh,S.st.sh,fun b h1 h2=>absurd h1 h2⟩,S.sl,S.ow,S.dj,S.rs⟩
theorem OKo.rebase {o:Out} {Gs Hs:Hp} (h:OKo X ad G₀ o D' E) (a:Step G₀ X.H₀ Gs Hs):OKo X ad Gs o D' E:=by
 cases o with
 | nx ρ=>exact fun σ G H S=>h σ G H (S.up a)
 | bk ρ=>exact fun σ G H S=>h σ G H (S.up a)
 | ct ρ=>exact fun σ G H S=>h σ G H (S.up a)
 | ex c ρ=>exact fun σ G H S=>h σ G H (S.up a)
 | rt r=>
  cases r with
  | ok d=>exact fun v G H st q=>h v G H (fJ a st) q
  | ow xs=>exact fun p vs G H st n m e q=>h p vs G H (fJ a st) n m e q
  | ex c=>exact h
  | bad=>exact h
theorem eZ {k:D->Out} {Q':VK} (S:SS X ad G₀ G H ρ σ) (hx:XA X ad Z E) (hr:OKo X ad G₀ (fE ρ (f ρ) k) D' E)
  (q: ∀ v d G1 H1,Step G H G1 H1->Rep X.K ad G1 d v->OKo X ad G₀ (k d) D' E->Q' v H1):tE X ad f σ H Q':=by
 refine⟨G,ρ,E σ,S.st.gh,S.sl,hx.1 σ, ?_⟩
 unfold fE at hr
 cases e:f ρ with
 | ok d=>rw [e] at hr;exact fun v G1 H1 st r=>q v d G1 H1 st r hr
 | ow xs=>
  rw [e] at hr
  intro p vs G1 H1 st n m e' r
  obtain⟨G2,st2,r2⟩:=bB (X:=X) (ad:=ad) st n m e' r
  exact q _ _ G2 H1 st2 r2 hr
 | ex c=>rw [e] at hr;exact fun G1 H1 st=>hr σ G1 H1 (S.step st)
 | bad=>rw [e] at hr;exact hr
theorem aB0:MS X ad Z (.Pass pos) aX:=PS.imp rF fun D' σ H ⟨G₀,G,ρ,E,S,hx,hr⟩=>hr σ G H S
theorem wT:MS X ad Z (.Break pos) aL1:=PS.imp vW fun D' σ H ⟨G₀,G,ρ,E,S,hx,hr⟩=>hr σ G H S
theorem nD:MS X ad Z (.Continue pos) aF3:=PS.imp mM fun D' σ H ⟨G₀,G,ρ,E,S,hx,hr⟩=>hr σ G H S
theorem nE:MSs X ad Z [] aX:=PSs.imp rE fun D' σ H ⟨G₀,G,ρ,E,S,hx,hr⟩=>hr σ G H S
theorem aB1 (h1:MS X ad Z st g):MSs X ad Z [st] g:=jG h1
theorem oU (h1:MS X ad Z st g) (h2:MSs X ad Z sts h):MSs X ad Z (st::sts) (bE g h):=by
 refine PSs.imp (fW h1 h2) ?_
 rintro D' σ H ⟨G₀,G,ρ,E,S,hx,hr⟩
 refine⟨G₀,G,ρ,E,S,hx, ?_⟩
 unfold bE at hr
 cases e:g ρ with
 | nx ρ'=>rw [e] at hr;exact fun σ' G' H' S'=>⟨G₀,G',ρ',E,S',hx,hr⟩
 | bk ρ'=>rw [e] at hr;exact hr
 | ct ρ'=>rw [e] at hr;exact hr
 | ex c ρ'=>rw [e] at hr;exact hr
 | rt r=>
  rw [e] at hr
  cases r<;>exact hr
theorem oV (he:ME X ad e f):MS X ad Z (.Return (some e) pos) (cU f):=by
 refine PS.imp (kG he) ?_
 rintro D' σ H ⟨G₀,G,ρ,E,S,hx,hr⟩
 refine⟨G,ρ,E σ,S.st.gh,S.sl,hx.1 σ, ?_⟩
 unfold cU at hr
 cases e:f ρ with
 | ok d=>rw [e] at hr;exact fun v G1 H1 st r=>hr v G1 H1 (S.st.trans st) r
 | ow xs=>rw [e] at hr;exact fun p vs G1 H1 st n m e' r=>hr p vs G1 H1 (S.st.trans st) (S.st.sh.free n) m e' r
 | ex c=>rw [e] at hr;exact fun G1 H1 st=>hr σ G1 H1 (S.step st)
 | bad=>rw [e] at hr;exact hr
theorem aB2:MS X ad Z (.Return none pos) aF2:=PS.imp aAp fun D' σ H ⟨G₀,G,ρ,E,S,hx,hr⟩=>hr .non G H S.st (by unfold Rep;rfl)
theorem aB3 {i:Nat} {x:Str} {p:Pos} (hN:X.N[i]? =some x) (hv:Vis X.env.scope x) (hd:(x==("__debug__":Str))=false) (hcd:(x==("__classdict__":Str))=false):MS X ad Z (.Return (some (.Name x p)) pos) (cU (aA6 i)):=by
 refine PS.imp (kG (aV hN hv hd hcd)) ?_
 rintro D' σ H ⟨G₀,G,ρ,E,S,hx,hr⟩
 unfold cU aA6 at hr
 cases e:ρ[i]? with
 | none=>rw [e] at hr;exact hr.elim
 | some sl=>
  rw [e] at hr
  cases sl with
  | no=>exact hr.elim
  | dc kvs=>exact hr.elim
  | sd kvs=>exact hr.elim
  | rk _ _=>exact hr.elim
  | sh d=>
   obtain⟨v,h1,h2⟩:=S.sl.sh e
   exact⟨v,h1,hr v G H S.st h2⟩
  | ow xs=>
   obtain⟨a,vs,h1,h2,h3,h4⟩:=S.sl.ow e
   exact⟨.ref a,h1,hr a vs G H S.st (S.ow i _ a e rfl h1) h2 h3 h4⟩
theorem aB4 (he:ME X ad e f) (hs:swapsWith e none pos.line X.env=pure false):MS X ad Z (.Expr e pos) (lJ f):=by
 refine PS.imp (dR he hs) ?_
 rintro D' σ H ⟨G₀,G,ρ,E,S,hx,hr⟩
 exact eZ S hx hr fun v d G1 H1 st r k=>k σ G1 H1 (S.step st)
theorem SS.set {i:Nat} {d:D} {v:V} (S:SS X ad G₀ G H ρ σ) (r:Rep X.K ad G d v):SS X ad G₀ G H (ρ.set i (.sh d)) (σ.set i (some v)):=by
 have key: ∀ (j:Nat) (sl:Slot),(ρ.set i (.sh d))[j]? =some sl->(j=i/\sl= .sh d/\i<ρ.length)\/(j≠i/\ρ[j]? =some sl):=fun j sl e=>by
  by_cases z:j=i
  ·subst z
   have hl:j<ρ.length:=by have:=(ay.mp e).1;rwa [List.length_set] at this
   rw [bn hl] at e
   cases e
   exact .inl ⟨rfl,rfl,hl⟩
  ·rw [bd (Ne.symm z)] at e
   exact .inr ⟨z,e⟩
 refine⟨S.st,⟨by rw [List.length_set,List.length_set];exact S.sl.len,fun j sl e=> ?_⟩,fun j xs a e w h=> ?_,fun j j' xs ys a e e' w w' h h'=> ?_,S.rs.set rfl fun _ z=>nomatch z⟩
 ·rcases key j sl e with ⟨rfl,rfl,hl⟩ | ⟨z,e⟩
  ·exact⟨some v,bn (by rw [<-S.sl.len];exact hl),v,rfl,r⟩
  ·obtain⟨ov,h1,h2⟩:=S.sl.at_ j sl e
   exact⟨ov,by rw [bd (Ne.symm z)];exact h1,h2⟩
 ·rcases key j _ e with ⟨_,z,_⟩ | ⟨z,e⟩
  ·subst z;exact(bg w).elim
  ·rw [bd (Ne.symm z)] at h
   exact S.ow j xs a e w h
 ·rcases key j _ e with ⟨_,z,_⟩ | ⟨z,e⟩
  ·subst z;exact(bg w).elim
  ·rcases key j' _ e' with ⟨_,z',_⟩ | ⟨z',e'⟩
   ·subst z';exact(bg w').elim
   ·rw [bd (Ne.symm z)] at h
    rw [bd (Ne.symm z')] at h'
    exact S.dj j j' xs ys a e e' w w' h h'
theorem SL.own_at {K:PySem.W.Frag} {j:Nat} {sl:Slot} {p:Addr} (h:SL K ad G H ρ σ) (e:ρ[j]? =some sl) (w:sl.owns=true) (hj:σ[j]? =some (some (.ref p))):G p=none/\H p≠none:=by
 obtain⟨ov,h1,h2⟩:=h.at_ j sl e
 rw [hj] at h1
 cases h1
 cases sl with
 | no=>exact(bg w).elim
 | sh d=>exact(bg w).elim
 | sd d=>exact(bg w).elim
 | rk _ _=>exact(bg w).elim
 | ow xs=>obtain⟨a,vs,k1,k2,k3,_⟩:=h2;cases k1;exact⟨k2,by rw [k3];exact fun z=>nomatch z⟩
 | dc xs=>obtain⟨a,vs,k1,k2,k3,_⟩:=h2;cases k1;exact⟨k2,by rw [k3];exact fun z=>nomatch z⟩
theorem SS.setNew {i:Nat} {sn:Slot} {p:Addr} {G1 H1:Hp} (S:SS X ad G₀ G H ρ σ) (st:Step G H G1 H1) (n:H p=none) (r:SLi X.K ad G1 H1 sn (some (.ref p))) (wr:sn.isRk=false:=by rfl):
  SS X ad G₀ G1 H1 (ρ.set i sn) (σ.set i (some (.ref p))):=by
 have S1:=S.step st
 have key: ∀ (j:Nat) (sl:Slot),(ρ.set i sn)[j]? =some sl->(j=i/\sl=sn/\i<ρ.length)\/(j≠i/\ρ[j]? =some sl):=fun j sl e=>by
  by_cases z:j=i
  ·subst z
   have hl:j<ρ.length:=by have:=(ay.mp e).1;rwa [List.length_set] at this
   rw [bn hl] at e
   cases e
   exact .inl ⟨rfl,rfl,hl⟩
  ·rw [bd (Ne.symm z)] at e
   exact .inr ⟨z,e⟩
 -- no other slot holds the new list
 have other: ∀ (j:Nat) (sl:Slot),ρ[j]? =some sl->sl.owns=true->σ[j]? ≠some (some (.ref p)):=fun j sl ej w hj=>(S.sl.own_at ej w hj).2 n
 refine⟨S1.st,⟨by rw [List.length_set,List.length_set];exact S.sl.len,fun j sl e'=> ?_⟩,fun j ys a e' w h=> ?_,fun j j' ys zs a e1 e2 w1 w2 h1 h2=> ?_,S1.rs.set wr fun a _ z k as f m=>by
  cases z
  exact((f.back S.sl st.sh).at S.sl p m).2 n⟩
 ·rcases key j sl e' with ⟨q1,q2,hl⟩ | ⟨z,e'⟩
  ·rw [q1,q2]
   exact⟨some (.ref p),bn (by rw [<-S.sl.len];exact hl),r⟩
  ·obtain⟨ov,h1,h2⟩:=S1.sl.at_ j sl e'
   exact⟨ov,by rw [bd (Ne.symm z)];exact h1,h2⟩
 ·rcases key j _ e' with ⟨q1,_,hl⟩ | ⟨z,e'⟩
  ·rw [q1,bn (by rw [<-S.sl.len];exact hl)] at h
   cases h
   exact S.st.sh.free n
  ·rw [bd (Ne.symm z)] at h
   exact S.ow j ys a e' w h
 ·rcases key j _ e1 with ⟨q1,_,hl⟩ | ⟨z,f1⟩
  ·rcases key j' _ e2 with ⟨q2,_,_⟩ | ⟨z',f2⟩
   ·rw [q1,q2]
   ·rw [q1,bn (by rw [<-S.sl.len];exact hl)] at h1
    cases h1
    rw [bd (Ne.symm z')] at h2
    exact absurd h2 (other j' zs f2 w2)
  ·rcases key j' _ e2 with ⟨q2,_,hl⟩ | ⟨z',f2⟩
   ·rw [q2,bn (by rw [<-S.sl.len];exact hl)] at h2
    cases h2
    rw [bd (Ne.symm z)] at h1
    exact absurd h1 (other j ys f1 w1)
   ·rw [bd (Ne.symm z)] at h1
    rw [bd (Ne.symm z')] at h2
    exact S.dj j j' ys zs a f1 f2 w1 w2 h1 h2
theorem SS.setOw {i:Nat} {xs:List D} {p:Addr} {vs:List V} {G1 H1:Hp} (S:SS X ad G₀ G H ρ σ) (st:Step G H G1 H1) (n:H p=none) (m:G1 p=none) (e:H1 p=some (.lst vs)) (r:aE X.K ad G1 xs vs):
  SS X ad G₀ G1 H1 (ρ.set i (.ow xs)) (σ.set i (some (.ref p))):=S.setNew st n ⟨p,vs,rfl,m,e,r⟩
theorem zH {i:Nat} (S:SS X ad G₀ G H ρ σ) (hx:XA X ad Z E) (hr:OKo X ad G₀ (vP i f ρ) D' E):tE X ad f σ H fun v H1=>D'.nx (σ.set i (some v)) H1:=by
 refine⟨G,ρ,E σ,S.st.gh,S.sl,hx.1 σ, ?_⟩
 unfold vP at hr
 cases e:f ρ with
 | ok d=>rw [e] at hr;exact fun v G1 H1 st r=>hr _ G1 H1 ((S.step st).set r)
 | ow xs=>rw [e] at hr;exact fun p vs G1 H1 st n m e' r=>hr _ G1 H1 (S.setOw st n m e' r)
 | ex c=>rw [e] at hr;exact fun G1 H1 st=>hr σ G1 H1 (S.step st)
 | bad=>rw [e] at hr;exact hr
theorem aGr {c:Expr} {a b:List Stmt} (hc:MT X ad c f) (ha:MSs X ad Z a g) (hb:MSs X ad Z b h):MS X ad Z (.If c a b pos) (sIf f g h):=by
 refine PS.imp (aAq hc ha hb) ?_
 rintro D' σ H ⟨G₀,G,ρ,E,S,hx,hr⟩
 unfold sIf at hr
 cases e:f ρ with
 | ok d=>
  rw [e] at hr
  cases d<;>try exact hr.elim
  rename_i k
  refine⟨G,ρ,E σ,S.st.gh,S.sl,hx.1 σ, .inl ⟨k,e⟩, ?_⟩
  rw [e]
  intro v G1 H1 st r
  unfold Rep at r;subst r
  refine⟨k,rfl, ?_⟩
  cases k with
  | true=>exact p8 ⟨G₀,G1,ρ,E,S.step st,hx,hr⟩
  | false=>exact q0 ⟨G₀,G1,ρ,E,S.step st,hx,hr⟩
 | ow xs=>rw [e] at hr;exact hr.elim
 | ex k=>
  rw [e] at hr
  refine⟨G,ρ,E σ,S.st.gh,S.sl,hx.1 σ, .inr ⟨k,e⟩, ?_⟩
  rw [e]
  exact fun G1 H1 st=>hr σ G1 H1 (S.step st)
 | bad=>rw [e] at hr;exact hr.elim
theorem SS.shareG {i:Nat} {sl₀ sn:Slot} {a:Addr} {o:HO} (S:SS X ad G₀ G H ρ σ) (e:ρ[i]? =some sl₀) (w₀:sl₀.owns=true) (h1:σ[i]? =some (some (.ref a))) (h3:H a=some o) (hst:Step G₀ X.H₀ (upd G a o) H) (wn:sn.owns=false)
  (r:SLi X.K ad (upd G a o) H sn (some (.ref a))) (wr:sn.isRk=false:=by rfl):SS X ad G₀ (upd G a o) H (ρ.set i sn) σ:=by
 have h2:G a=none:=(S.sl.own_at e w₀ h1).1
 have le:Same G (upd G a o):=Same.upd_new h2
 have hl:i<ρ.length:=(ay.mp e).1
 have key: ∀ (j:Nat) (sl:Slot),(ρ.set i sn)[j]? =some sl->(j=i/\sl=sn)\/(j≠i/\ρ[j]? =some sl):=fun j sl e=>by
  by_cases z:j=i
  ·subst z
   rw [bn hl] at e
   cases e
   exact .inl ⟨rfl,rfl⟩
  ·rw [bd (Ne.symm z)] at e
   exact .inr ⟨z,e⟩
 refine⟨hst,⟨by show(ρ.set i _).length=_;rw [List.length_set];exact S.sl.len,fun j sl e'=> ?_⟩,fun j ys b e' w h=> ?_,fun j j' ys zs b e1 e2 w1 w2 k1 k2=> ?_,S.rs.re wr e w₀⟩
 ·rcases key j sl e' with ⟨q1,q2⟩ | ⟨z,e'⟩
  ·rw [q1,q2]
   exact⟨some (.ref a),h1,r⟩
  ·obtain⟨ov,k1,k2⟩:=S.sl.at_ j sl e'
   refine⟨ov,k1, ?_⟩
   cases sl with
   | no=>trivial
   | sh d=>obtain⟨v,k3,k4⟩:=k2;exact⟨v,k3,k4.mono le⟩
   | ow ys=>
    obtain⟨b,ws,k3,k4,k5,k6⟩:=k2
    have ne:b≠a:=fun q=>by
     subst q
     subst k3
     exact z (S.dj j i _ _ b e' e rfl w₀ k1 h1)
    exact⟨b,ws,k3,by rw [aA ne];exact k4,k5,k6.mono le⟩
   | dc ys=>
    obtain⟨b,ws,k3,k4,k5,k6,k7⟩:=k2
    have ne:b≠a:=fun q=>by
     subst q
     subst k3
     exact z (S.dj j i _ _ b e' e rfl w₀ k1 h1)
    exact⟨b,ws,k3,by rw [aA ne];exact k4,k5,k6.mono le,k7⟩
   | sd ys=>
    obtain⟨b,ws,k3,k4,k5,k6,k7⟩:=k2
    exact⟨b,ws,k3,le _ _ k4,k5,k6.mono le,k7⟩
   | rk C r=>
    obtain⟨p,dx,d,l1,l2,k3,k4⟩:=k2
    have ft:dZ H ρ σ j [p,dx,d,l1,l2]:=⟨C,r,p,dx,d,l1,l2,e',by rw [k1,k3],k4.ins,rfl⟩
    exact⟨p,dx,d,l1,l2,k3,k4.shr (fun m=>S.rs.ow j _ ft a m i sl₀ e w₀ h1) le⟩
 ·rcases key j _ e' with ⟨_,z⟩ | ⟨z,e'⟩
  ·rw [z,wn] at w;exact(bg w).elim
  ·exact S.ow j ys b e' w h
 ·rcases key j _ e1 with ⟨_,z⟩ | ⟨z,e1⟩
  ·rw [z,wn] at w1;exact(bg w1).elim
  ·rcases key j' _ e2 with ⟨_,z'⟩ | ⟨z',e2⟩
   ·rw [z',wn] at w2;exact(bg w2).elim
   ·exact S.dj j j' ys zs b e1 e2 w1 w2 k1 k2
theorem SS.frz1 {i:Nat} (S:SS X ad G₀ G H ρ σ): ∃ G',SS X ad G₀ G' H (SK.frz1 i ρ) σ/\Same G G':=by
 unfold SK.frz1
 cases e:ρ[i]? with
 | none=>exact⟨G,S,Same.refl _⟩
 | some sl=>
  cases sl with
  | no=>exact⟨G,S,Same.refl _⟩
  | sd d=>exact⟨G,S,Same.refl _⟩
  | rk _ _=>exact⟨G,S,Same.refl _⟩
  | sh d=>exact⟨G,S,Same.refl _⟩
  | dc kvs=>
   obtain⟨a,es,h1,h2,h3,h4,h5⟩:=S.sl.dc e
   have le:Same G (upd G a (dcO a es)):=Same.upd_new h2
   exact⟨_,S.shareG e rfl h1 h3 (S.st.shareO (S.ow i _ a e rfl h1) h2 h3) rfl ⟨a,es,rfl,aC,h3,h4.mono le,h5⟩,le⟩
  | ow xs=>
   obtain⟨a,vs,h1,h2,h3,h4⟩:=S.sl.ow e
   have le:Same G (upd G a (.lst vs)):=Same.upd_new h2
   exact⟨_,S.shareG e rfl h1 h3 (S.st.share (S.ow i _ a e rfl h1) h2 h3) rfl ⟨.ref a,rfl,by unfold Rep;exact⟨a,vs,rfl,SqL.of aC,h4.mono le⟩⟩,le⟩
theorem SS.frz {is:List Nat}: ∀ {ρ:Rho} {G:Hp},SS X ad G₀ G H ρ σ-> ∃ G',SS X ad G₀ G' H (SK.frz is ρ) σ/\Same G G':=by
 induction is with
 | nil=>intro ρ G S;exact⟨G,S,Same.refl _⟩
 | cons i is ih=>
  intro ρ G S
  obtain⟨G1,S1,l1⟩:=S.frz1 (i:=i)
  obtain⟨G2,S2,l2⟩:=ih S1
  exact⟨G2,S2,l1.trans l2⟩
theorem eI {is:List Nat} (h1:MS X ad Z st g):MS X ad Z st (cQ is g):=by
 cases is with
 | nil=>exact h1
 | cons i is=>
  refine PS.imp h1 ?_
  rintro D' σ H ⟨G₀,G,ρ,E,S,hx,hr⟩
  obtain⟨G',S',_⟩:=S.frz (is:=i::is)
  exact⟨G₀,G',_,E,S',hx,hr⟩
end
section
variable {X:Cx} {ad:Ad} {Z:(St->Nat->Hp->Prop)->Prop} {pins:List (Addr×Obj)} {s:Shared} {σ:St} {H G G₀:Hp} {ρ:Rho} {D':Ends} {E:St->Nat->Hp->Prop} {pos pos':Pos} {e:Expr} {f:F} {g h:FS} {st:Stmt} {sts:List Stmt}
theorem SS.updG {i:Nat} {sl₀ sn:Slot} {a:Addr} {o:HO} (S:SS X ad G₀ G H ρ σ) (e:ρ[i]? =some sl₀) (w₀:sl₀.owns=true) (h1:σ[i]? =some (some (.ref a))) (r:SLi X.K ad G (upd H a o) sn (some (.ref a))) (wr:sn.isRk=false:=by rfl):SS X ad G₀ G (upd H a o) (ρ.set i sn) σ:=by
 have n0:X.H₀ a=none:=S.ow i sl₀ a e w₀ h1
 have h2:G a=none:=(S.sl.own_at e w₀ h1).1
 have hl:i<ρ.length:=(ay.mp e).1
 have key: ∀ (j:Nat) (sl:Slot),(ρ.set i sn)[j]? =some sl->(j=i/\sl=sn)\/(j≠i/\ρ[j]? =some sl):=fun j sl e=>by
  by_cases z:j=i
  ·subst z
   rw [bn hl] at e
   cases e
   exact .inl ⟨rfl,rfl⟩
  ·rw [bd (Ne.symm z)] at e
   exact .inr ⟨z,e⟩
 refine⟨lR S.st n0 h2,⟨by rw [List.length_set];exact S.sl.len,fun j sl e'=> ?_⟩,fun j zs b e' w h=> ?_,fun j j' zs zs' b e1 e2 w1 w2 k1 k2=> ?_, ?_⟩
 ·rcases key j sl e' with ⟨q1,q2⟩ | ⟨z,f1⟩
  ·rw [q1,q2]
   exact⟨some (.ref a),h1,r⟩
  ·obtain⟨ov,k1,k2⟩:=S.sl.at_ j sl f1
   refine⟨ov,k1, ?_⟩
   cases sl with
   | no=>trivial
   | sh d=>exact k2
   | ow zs=>
    obtain⟨b,vs',k3,k4,k5,k6⟩:=k2
    have ne:b≠a:=fun q=>by
     subst q
     subst k3
     exact z (S.dj j i _ _ b f1 e rfl w₀ k1 h1)
    exact⟨b,vs',k3,k4,by rw [aA ne];exact k5,k6⟩
   | dc zs=>
    obtain⟨b,vs',k3,k4,k5,k6⟩:=k2
    have ne:b≠a:=fun q=>by
     subst q
     subst k3
     exact z (S.dj j i _ _ b f1 e rfl w₀ k1 h1)
    exact⟨b,vs',k3,k4,by rw [aA ne];exact k5,k6⟩
   | sd zs=>
    obtain⟨b,vs',k3,k4,k5,k6⟩:=k2
    have ne:b≠a:=fun q=>by
     rw [q] at k4
     rw [h2] at k4
     cases k4
    exact⟨b,vs',k3,k4,by rw [aA ne];exact k5,k6⟩
   | rk C r=>
    obtain⟨p,dx,d,l1,l2,k3,k4⟩:=k2
    have ft:dZ H ρ σ j [p,dx,d,l1,l2]:=⟨C,r,p,dx,d,l1,l2,f1,by rw [k1,k3],k4.ins,rfl⟩
    exact⟨p,dx,d,l1,l2,k3,k4.ups (fun m=>S.rs.ow j _ ft a m i sl₀ e w₀ h1)⟩
 ·rcases key j _ e' with ⟨q1,q2⟩ | ⟨z,f1⟩
  ·rw [q1,h1] at h
   cases h
   exact n0
  ·exact S.ow j zs b f1 w h
 ·rcases key j _ e1 with ⟨q1,_⟩ | ⟨z,f1⟩
  ·rcases key j' _ e2 with ⟨q2,_⟩ | ⟨z',f2⟩
   ·rw [q1,q2]
   ·rw [q1] at k1 ⊢
    exact S.dj i j' _ zs' b e f2 w₀ w2 k1 k2
  ·rcases key j' _ e2 with ⟨q2,_⟩ | ⟨z',f2⟩
   ·rw [q2] at k2 ⊢
    exact S.dj j i zs _ b f1 e w1 w₀ k1 k2
   ·exact S.dj j j' zs zs' b f1 f2 w1 w2 k1 k2
 ·refine RS.re (H:=upd H a o) ?_ wr e w₀
  have bk: ∀ {k:Nat} {as:List Addr},dZ (upd H a o) ρ σ k as->dZ H ρ σ k as:=fun {k as} f=>by
   obtain⟨C,r,p,dx,d,l1,l2,f1,f2,f3,f4⟩:=f
   obtain⟨p',dx',d',l1',l2',q1,q2⟩:=S.sl.rk f1
   rw [f2] at q1
   cases q1
   have ft:dZ H ρ σ k [p,dx',d',l1',l2']:=⟨C,r,p,dx',d',l1',l2',f1,f2,q2.ins,rfl⟩
   have ne:p≠a:=fun z=>S.rs.ow k _ ft p (by simp) i sl₀ e w₀ (by rw [z];exact h1)
   rw [aA ne] at f3
   exact⟨C,r,p,dx,d,l1,l2,f1,f2,f3,f4⟩
  exact⟨fun k as f=>S.rs.h0 k as (bk f),fun k as f=>S.rs.ow k as (bk f),fun k k' as as' c f f'=>S.rs.rr k k' as as' c (bk f) (bk f')⟩
theorem SS.upd {i:Nat} {xs ys:List D} {a:Addr} {ws:List V} (S:SS X ad G₀ G H ρ σ) (e:ρ[i]? =some (.ow xs)) (h1:σ[i]? =some (some (.ref a))) (h2:G a=none) (r:aE X.K ad G ys ws):SS X ad G₀ G (L2.upd H a (.lst ws)) (ρ.set i (.ow ys)) σ:=
 S.updG e rfl h1 ⟨a,ws,rfl,h2,aC,r⟩
theorem d6 {cpos:Pos} (hs:starEach [e] X.env=(false,eval e X.env)::starEach [] X.env):((backTo cpos (starEach [e] X.env)).all (fun x=> !x.1)&&(backToKw cpos (keywordEach [] X.env)).all (fun x=>x.1.isSome)
   &&decide ([e].length+([]:List Keyword).length+(if([]:List Keyword).isEmpty then 0 else 1)<30))=true:=by
 rw [hs]
 rfl
theorem aGs {i:Nat} {x:Str} {p ap cp:Pos} (hN:X.N[i]? =some x) (hv:Vis X.env.scope x) (hd:(x==("__debug__":Str))=false) (hcd:(x==("__classdict__":Str))=false) (he:ME X ad e f) (hs:starEach [e] X.env=(false,eval e X.env)::starEach [] X.env)
  (hline:(ap.endLine==cp.line)=true):MS X ad Z (.Expr (.Call (.Attribute (.Name x p) "append" ap) [e] [] cp) pos) (iZ i f):=by
 refine PS.imp (dR (wA (T:="list") PySem.F.plainAttrs_list PySem.F.slot_list_append PySem.F.type_list_append eV (aV hN hv hd hcd) (bU he cI hs) rfl (d6 hs) hline hs rfl) rfl) ?_
 rintro D' σ H ⟨G₀,G,ρ,E,S,hx,hr⟩
 unfold iZ at hr
 cases q:ρ[i]? with
 | none=>rw [q] at hr;exact hr.elim
 | some sl=>
  rw [q] at hr
  cases sl with
  | no=>exact hr.elim
  | sh d=>exact hr.elim
  | dc d=>exact hr.elim
  | sd d=>exact hr.elim
  | rk _ _=>exact hr.elim
  | ow xs=>
   obtain⟨a,vs,h1,h2,h3,h4⟩:=S.sl.ow q
   refine⟨.ref a,h1, .inl ⟨rfl,vs,SqL.of h3⟩, ?_⟩
   refine eZ S hx hr fun v d G1 H1 st r k=> ?_
   obtain⟨g1,h1'⟩:=cL st h2 h3
   have k':OKo X ad G₀ (if xs.length<LIM then .nx (ρ.set i (.ow (xs++[d]))) else .rt .bad) D' E:=k
   by_cases hc:xs.length<LIM
   ·rw [if_pos hc] at k'
    have r4:=h4.mono st.sg
    refine⟨a,vs,v,rfl,rfl,h1', ?_,k' σ G1 _ ((S.step st).upd q h1 g1 (r4.append (aE.cons r aE.nil)))⟩
    rw [h4.length]
    exact bh hc (by decide)
   ·rw [if_neg hc] at k'
    exact k'.elim
noncomputable def aL8 (K:PySem.W.Frag):V->List V->Hp->VK->Prop:=fun x vs H Q=> ∃ l b xs zs,x= .ref l/\vs=[.ref b]/\H l=some (.lst xs)/\SqL K H b zs/\xs.length+zs.length<=sizeLine/\Q .non (upd H l (.lst (xs++zs)))
theorem zI:MtM X "list.extend" (aL8 X.K):=by
 intro pins s σ H x vs v us Q I rx rv h
 obtain⟨l,b,xs,zs,rfl,rfl,hH,hB,hz,q⟩:=h
 cases rx
 obtain⟨u,rfl,ru⟩:=rv.one
 cases ru
 obtain⟨z,its,n,r,hl,e⟩:=I.lstM hH
 obtain⟨its2,r2,⟨⟨cls2,dd2,data2,sl2⟩,n2,e2,hc2,hdd2,hd2⟩,_⟩:=I.list hB
 simp only at hc2 hd2 hdd2
 subst hc2 hd2
 have hl2:=r2.length
 have hsz:its.toArray.size+its2.toArray.size<=sizeLine:=by rw [ax,ax];omega
 have hlong: ¬ (!its.toArray.isEmpty&&Builtin.List.listTooLong (its.toArray.size+its2.toArray.size))=true:=by
  rw [oE hsz,Bool.and_false]
  exact bg
 refine call_meets F.slot_list_extend ⟨_,e,rfl⟩ F.entry_list_extend (F.args_list_extend_2 _ _)
  (lD l its.toArray n b its2.toArray n2 dd2 sl2 hlong (by rw [ax];omega) (by omega)) ⟨e,e2, ?_⟩
 refine⟨.non,_,I.lset (its':=its++its2) hH e (by simp) (r.append r2) ?_,rfl,q⟩
 rw [bq]
 omega
theorem aGt {i:Nat} {x:Str} {p ap cp:Pos} (hN:X.N[i]? =some x) (hv:Vis X.env.scope x) (hd:(x==("__debug__":Str))=false) (hcd:(x==("__classdict__":Str))=false) (he:ME X ad e f) (hs:starEach [e] X.env=(false,eval e X.env)::starEach [] X.env)
  (hline:(ap.endLine==cp.line)=true):MS X ad Z (.Expr (.Call (.Attribute (.Name x p) "extend" ap) [e] [] cp) pos) (iO i f):=by
 refine PS.imp (dR (wA (T:="list") PySem.F.plainAttrs_list PySem.F.slot_list_extend PySem.F.type_list_extend zI (aV hN hv hd hcd) (bU he cI hs) rfl (d6 hs) hline hs rfl) rfl) ?_
 rintro D' σ H ⟨G₀,G,ρ,E,S,hx,hr⟩
 unfold iO at hr
 cases q:ρ[i]? with
 | none=>rw [q] at hr;exact hr.elim
 | some sl=>
  rw [q] at hr
  cases sl with
  | no=>exact hr.elim
  | sh d=>exact hr.elim
  | dc d=>exact hr.elim
  | sd d=>exact hr.elim
  | rk _ _=>exact hr.elim
  | ow xs=>
   obtain⟨a,vs,h1,h2,h3,h4⟩:=S.sl.ow q
   refine⟨.ref a,h1, .inl ⟨rfl,vs,SqL.of h3⟩, ?_⟩
   refine eZ S hx hr fun v d G1 H1 st r k=> ?_
   obtain⟨g1,h1'⟩:=cL st h2 h3
   cases d<;>try exact ba k
   rename_i ys
   have k':OKo X ad G₀ (if xs.length+ys.length<=LIM then .nx (ρ.set i (.ow (xs++ys))) else .rt .bad) D' E:=k
   by_cases hc:xs.length+ys.length<=LIM
   ·rw [if_pos hc] at k'
    have r4:=h4.mono st.sg
    unfold Rep at r
    obtain⟨b,ws,rfl,hq,rq⟩:=r
    refine⟨a,b,vs,ws,rfl,rfl,h1',st.gh.seq hq, ?_,k' σ G1 _ ((S.step st).upd q h1 g1 (r4.append rq))⟩
    rw [h4.length,rq.length]
    exact Nat.le_trans hc (by decide)
   ·rw [if_neg hc] at k'
    exact k'.elim
structure ItG (X:Cx) (ad:Ad) (J:It) (G:Hp) (ds:List D):Prop where
 go: ∀ (i:Nat) (G1 H1:Hp) (d:D),Same G G1->Same G1 H1->ds[i]? =some d->J.go i H1/\ ∀ x H2,J.yld i H1 x H2-> ∃ G2,Step G1 H1 G2 H2/\Rep X.K ad G2 d x
 stop: ∀ (G1 H1:Hp),Same G G1->Same G1 H1->J.stop ds.length H1
def IGK (X:Cx) (ad:Ad) (G H:Hp) (r:R) (W:It->Hp->Prop) (E:Nat->Hp->Prop):Prop:=match r with
 | .ok d=> ∃ ds,items d=some ds/\ ∀ J G' H',Step G H G' H'->ItG X ad J G' ds->W J H'
 | .ow xs=> ∀ J G' H',Step G H G' H'->ItG X ad J G' xs->W J H'
 | .ex c=> ∀ G' H',Step G H G' H'->E c H'
 | .bad=>False
noncomputable def tIG (X:Cx) (ad:Ad) (f:F):TI:=fun σ H W=> ∃ G ρ E,Same G H/\SL X.K ad G H ρ σ/\XP X ad σ E/\IGK X ad G H (f ρ) W E
abbrev MIG (X:Cx) (ad:Ad) (tg e:Expr) (f:F):Prop:=PI X tg e (tIG X ad f)
theorem aB5 {a:Addr} {vs:List V} {ds:List D} (hq:SqT X.K G a vs) (r:aE X.K ad G ds vs):ItG X ad (Itt X.K a) G ds:=by
 refine⟨fun i G1 H1 d s1 s2 e=> ?_,fun G1 H1 s1 s2=>⟨vs,s2.seqT (s1.seqT hq),by rw [r.length];exact ak _⟩⟩
 obtain⟨v,e1,r1⟩:=r.get e
 refine⟨⟨vs,v,s2.seqT (s1.seqT hq),e1⟩, ?_⟩
 rintro x H2 ⟨rfl,y⟩
 have:=y vs (s2.seqT (s1.seqT hq))
 rw [e1] at this
 cases this
 exact⟨G1,Step.refl s2,r1.mono s1⟩
theorem aB6 {a:Addr} {vs:List V} {ds:List D} (hq:SqL X.K G a vs) (r:aE X.K ad G ds vs):ItG X ad (Itl X.K a) G ds:=by
 refine⟨fun i G1 H1 d s1 s2 e=> ?_,fun G1 H1 s1 s2=>⟨vs,s2.seq (s1.seq hq),by rw [r.length];exact ak _⟩⟩
 obtain⟨v,e1,r1⟩:=r.get e
 refine⟨⟨vs,v,s2.seq (s1.seq hq),e1⟩, ?_⟩
 rintro x H2 ⟨rfl,y⟩
 have:=y vs (s2.seq (s1.seq hq))
 rw [e1] at this
 cases this
 exact⟨G1,Step.refl s2,r1.mono s1⟩
theorem aB7 {lo:Int} {n:Nat}:ItG X ad (Itr lo n) G ((List.range n).map fun(i:Nat)=>D.int (lo+(i:Int))):=by
 refine⟨fun i G1 H1 d s1 s2 e=> ?_,fun G1 H1 s1 s2=>by simp [Itr]⟩
 rw [List.getElem?_map] at e
 cases q:(List.range n)[i]? with
 | none=>rw [q] at e;cases e
 | some j=>
  rw [q] at e
  obtain⟨hi,hj⟩:=ay.mp q
  rw [List.length_range] at hi
  rw [List.getElem_range] at hj
  subst hj
  cases e
  refine⟨hi, ?_⟩
  rintro x H2 ⟨rfl,rfl⟩
  exact⟨G1,Step.refl s2,aO⟩
theorem jS {tg a:Expr} {f:F} (ha:ME X ad a f):MIG X ad tg a f:=by
 intro pins s σ H W I ⟨G,ρ,E,hG,hS,hx,hr⟩
 have key: ∀ (d:D) (ds:List D),items d=some ds->(∀ J G' H',Step G H G' H'->ItG X ad J G' ds->W J H')-> ∀ u s1 v H1 G1,Inv X pins σ H1 s1->aP v u->Step G H G1 H1->Rep X.K ad G1 d v->wpAny (model X.prog X.w) X.A (pyIter u) (PIE X pins σ tg W) X.xe s1:=by
  intro d ds e hw u s1 v H1 G1 I1 r1 st q
  obtain⟨p,vs,rfl,hq,rq⟩:=hF e q
  cases (show u=Value.ref p from r1)
  rcases hq with hq | hq
  ·obtain⟨its,rv,pt,hz⟩:=I1.tuple (st.gh.seqT hq)
   refine wpAny_pyIter_tuple (show s1.heap.IsTuple p its.toArray from pt) ?_
   refine⟨s1.heap.objs.size,[s1.heap.objs.size],_,_,H1,rfl,I1.kept (t':=s1.toks) fun b o e=>ag _ e,iU p _,⟨_,ah _ rfl,rfl,rfl⟩,fun b hb=> ?_,hw _ G1 H1 st (aB5 hq rq)⟩
   have e:b=s1.heap.objs.size:=by simpa using hb
   subst e
   exact I1.fpOk (ak _) (I1.hok.fresh (ak _))
  ·obtain⟨its,rv,pt,hz⟩:=I1.list (st.gh.seq hq)
   refine wpAny_pyIter_list pt.isList ?_
   refine⟨s1.heap.objs.size,[s1.heap.objs.size],_,_,H1,rfl,I1.kept (t':=s1.toks) fun b o e=>ag _ e,gP p _,⟨_,ah _ rfl,rfl,rfl⟩,fun b hb=> ?_,hw _ G1 H1 st (aB6 hq rq)⟩
   have e:b=s1.heap.objs.size:=by simpa using hb
   subst e
   exact I1.fpOk (ak _) (I1.hok.fresh (ak _))
 cases e:f ρ with
 | ok d=>
  rw [e] at hr
  obtain⟨ds,e2,hw⟩:=hr
  exact L2.thn (ha pins s σ H (fun v H1=> ∃ G1,Step G H G1 H1/\Rep X.K ad G1 d v) I ⟨G,ρ,E,hG,hS,hx,by rw [e];exact fun v G1 H1 st q=>⟨G1,st,q⟩⟩) fun u s1 ⟨v,H1,I1,r1,G1,st,q⟩=>key d ds e2 hw u s1 v H1 G1 I1 r1 st q
 | ow l=>
  rw [e] at hr
  exact L2.thn (ha pins s σ H (fun v H1=> ∃ G1,Step G H G1 H1/\Rep X.K ad G1 (.lst l) v) I ⟨G,ρ,E,hG,hS,hx,by rw [e];exact fun p vs G1 H1 st n m e' q=>bB st n m e' q⟩) fun u s1 ⟨v,H1,I1,r1,G1,st,q⟩=>key (.lst l) l rfl hr u s1 v H1 G1 I1 r1 st q
 | ex c=>
  rw [e] at hr
  exact L2.thn (ha pins s σ H (fun v H1=>False) I ⟨G,ρ,E,hG,hS,hx,by rw [e];exact hr⟩) fun u s1 ⟨v,H1,I1,r1,q⟩=>q.elim
 | bad=>
  rw [e] at hr
  exact ba hr
theorem sS {tg a:Expr} {f:F} {p:Pos} (hg:L2.Gl X "range") (hm:X.mg "range"=none) (ha:ME X ad a f) (hs:starEach [a] X.env=(false,eval a X.env)::starEach [] X.env):MIG X ad tg (.Call (.Name "range" p) [a] [] pos) (gX f):=by
 intro pins s σ H W I ⟨G,ρ,E,hG,hS,hx,hr⟩
 refine kJ (ta:=mQ (tE X ad f) aEh) hg hm (bU ha cI hs) hs pins s σ H W I ?_
 show tE X ad f σ H fun v H1=> ∃ j:Int,[v]=[.int j]/\ -(2 ^ 62)<=j/\j<2 ^ 62/\W (Itr 0 j.toNat) H1
 refine⟨G,ρ,E,hG,hS,hx, ?_⟩
 unfold gX at hr
 cases e:f ρ with
 | ok d=>
  rw [e] at hr
  cases d<;>try exact ba hr
  rename_i i
  have k':IGK X ad G H (if -100000<=i/\i<=100000 then .ok (.lst (aFx i.toNat)) else .bad) W E:=hr
  by_cases hc: -100000<=i/\i<=100000
  ·rw [if_pos hc] at k'
   obtain⟨ds,e,hw⟩:=k'
   cases e
   intro v G1 H1 st r
   unfold Rep at r;subst r
   refine⟨i,rfl,by omega,by omega,hw _ G1 H1 st ?_⟩
   rw [sR]
   exact aB7
  ·rw [if_neg hc] at k'
   exact k'.elim
 | ow l=>rw [e] at hr;exact ba hr
 | ex c=>rw [e] at hr;exact hr
 | bad=>rw [e] at hr;exact hr
end
noncomputable def gIs:List Nat->TGs
 | []=>aJi
 | i::is=>aAr (gO i) (gIs is)
noncomputable def wU:List Nat->List V->St->St
 | i::is,v::vs,σ=>wU is vs (σ.set i (some v))
 | _,_,σ=>σ
theorem sT: ∀ {is:List Nat} {vs:List V} {σ:St} {H:Hp} {Q:St->Hp->Prop},vs.length=is.length->Q (wU is vs σ) H->gIs is vs σ H Q
 | [],[],_,_,_,_,h=>⟨rfl,h⟩
 | i::is,v::vs,σ,H,Q,e,h=>⟨v,vs,rfl,sT (is:=is) (vs:=vs) (by simpa using e) h⟩
 | [],_::_,_,_,_,e,_=>by simp at e
 | _::_,[],_,_,_,e,_=>by simp at e
noncomputable def gTs (K:PySem.W.Frag) (k:Nat) (is:List Nat):TG:=match k,is with
 | 0,[i]=>gO i
 | k,is=>aE8 K is.length (gIs is)
def aGu (X:Cx) (x:Str) (i:Nat):Prop:=X.N[i]? =some x/\Loc X.env.scope x/\(X.fn x=true\/X.env.scope.names.lookup x=some .local)
inductive NmsOk (X:Cx):List Str->List Nat->Prop
 | nil:NmsOk X [] []
 | cons {x:Str} {i:Nat} {xs:List Str} {is:List Nat}:aGu X x i->NmsOk X xs is->NmsOk X (x::xs) (i::is)
section
variable {X:Cx} {ad:Ad} {Z:(St->Nat->Hp->Prop)->Prop} {pins:List (Addr×Obj)} {s:Shared} {σ:St} {H G G₀:Hp} {ρ:Rho} {D':Ends} {E:St->Nat->Hp->Prop} {pos pos':Pos} {e it tg:Expr} {f:F} {g h:FS} {st:Stmt} {body:List Stmt}
theorem NmsOk.len: ∀ {xs:List Str} {is:List Nat},NmsOk X xs is->is.length=xs.length
 | _,_, .nil=>rfl
 | _,_, .cons _ h=>by simp [NmsOk.len h]
theorem sU (hN:X.N.Nodup): ∀ {es:List Expr} {xs:List Str} {is:List Nat},cV (fun(e:Expr)=>match e with | .Name x _=>some x | _=>none) es=some xs->NmsOk X xs is->PGs X es (gIs is)
 | [],xs,is,e,h=>by
  cases e
  cases h
  exact rH
 | a::es,xs,is,e,h=>by
  unfold cV at e
  cases a<;>try (cases e)
  rename_i x px
  simp only at e
  obtain⟨r,e1,e2⟩:=zMd e
  subst e2
  cases h with
  | cons h1 h2=>exact nZ (fF hN h1.1 h1.2.1 h1.2.2) (sU hN e1 h2) rfl
theorem fK: ∀ {es:List Expr} {xs:List Str},cV (fun(e:Expr)=>match e with | .Name x _=>some x | _=>none) es=some xs->(assignEach es X.env).length=xs.length/\(assignEach es X.env).findIdx? (·.1)=none
 | [],xs,e=>by cases e;exact⟨rfl,rfl⟩
 | a::es,xs,e=>by
  unfold cV at e
  cases a<;>try (cases e)
  rename_i x px
  simp only at e
  obtain⟨r,e1,e2⟩:=zMd e
  subst e2
  obtain⟨h1,h2⟩:=fK e1
  have q:assignEach (.Name x px::es) X.env=(false,assign (.Name x px) X.env)::assignEach es X.env:=rfl
  rw [q]
  refine⟨by simp [h1], ?_⟩
  rw [List.findIdx?_cons]
  simp [h2]
theorem aB8 {xs:List Str} {k:Nat} {is:List Nat} (hc:X.calm=true) (hN:X.N.Nodup) (e:bH tg=some (xs,k)) (h:NmsOk X xs is):PG X tg (gTs X.K k is)/\(k=0/\is.length=1\/k≠0/\k=is.length):=by
 cases tg<;>try (cases e)
 ·rename_i x px
  cases h with
  | cons h1 h2=>
   cases h2
   exact⟨fF hN h1.1 h1.2.1 h1.2.2, .inl ⟨rfl,rfl⟩⟩
 ·rename_i es j px
  unfold bH at e
  obtain⟨ys,e1,e2⟩:=zBd e
  by_cases hl:2<=ys.length
  ·rw [if_pos hl] at e2
   cases e2
   obtain⟨q1,q2⟩:=fK (X:=X) e1
   have hk:=h.len
   refine⟨?_, .inr ⟨by omega,hk.symm⟩⟩
   have P:=yK (pos:=px) (k:=j) (n:=is.length) hc (sU hN e1 h) (by rw [q1,hk]) q2
   have:gTs X.K xs.length is=aE8 X.K is.length (gIs is):=by
    unfold gTs
    cases is with
    | nil=>simp at hk;omega
    | cons i is=>
     cases hx:xs.length with
     | zero=>omega
     | succ n=>rfl
   rw [this]
   exact P
  ·rw [if_neg hl] at e2
   cases e2
theorem SS.setN: ∀ {is:List Nat} {ds:List D} {vs:List V} {ρ:Rho} {σ:St},SS X ad G₀ G H ρ σ->aE X.K ad G ds vs->SS X ad G₀ G H (SK.setN is ds ρ) (wU is vs σ)
 | [],ds,vs,ρ,σ,S,r=>by
  have e1:SK.setN [] ds ρ=ρ:=by cases ds<;>rfl
  have e2:wU [] vs σ=σ:=by cases vs<;>rfl
  rw [e1,e2]
  exact S
 | i::is,[],vs,ρ,σ,S,r=>by
  unfold aE at r
  subst r
  exact S
 | i::is,d::ds,vs,ρ,σ,S,r=>by
  unfold aE at r
  obtain⟨v,vr,rfl,r1,r2⟩:=r
  exact SS.setN (is:=is) (ds:=ds) (vs:=vr) (ρ:=ρ.set i (.sh d)) (σ:=σ.set i (some v)) (S.set r1) r2
theorem zJ {k:Nat} {is:List Nat} {d:D} {v:V} {ρ1:Rho} {Q:St->Hp->Prop} (hk:k=0/\is.length=1\/k≠0/\k=is.length) (e:iP is (k==0) d ρ=some ρ1) (S:SS X ad G₀ G H ρ σ) (r:Rep X.K ad G d v) (q: ∀ σ1,SS X ad G₀ G H ρ1 σ1->Q σ1 H):gTs X.K k is v σ H Q:=by
 rcases hk with ⟨rfl,h1⟩ | ⟨h1,h2⟩
 ·obtain⟨i,rfl⟩:=List.length_eq_one_iff.mp h1
  cases e
  exact q _ (S.set r)
 ·have hb:(k==0)=false:=by simpa using h1
  rw [hb] at e
  have e0:iP is false d ρ=match(generalizing:=false) d with | .tup ds=>if ds.length=is.length then some (SK.setN is ds ρ) else none | _=>none:=by
   cases is with
   | nil=>rfl
   | cons _ _=>rfl
  have e':=e0.symm.trans e
  have hg:gTs X.K k is=aE8 X.K is.length (gIs is):=by
   unfold gTs
   cases k with
   | zero=>exact absurd rfl h1
   | succ k=>rfl
  rw [hg]
  cases d<;>try (cases e')
  rename_i ds
  simp only at e'
  by_cases hl:ds.length=is.length
  ·rw [if_pos hl] at e'
   cases e'
   unfold Rep at r
   obtain⟨a,vs,rfl,hq,rq⟩:=r
   exact⟨a,vs,rfl,S.st.gh.seqT hq,by rw [rq.length,hl],sT (by rw [rq.length,hl]) (q _ (S.setN rq))⟩
  ·rw [if_neg hl] at e'
   cases e'
theorem sV {α:Type} {ds:List α} {i:Nat} {d:α} (e:ds[i]? =some d):ds.drop i=d::ds.drop (i+1):=by
 obtain⟨h,rfl⟩:=ay.mp e
 exact List.drop_eq_getElem_cons h
theorem gA {J:It} {G' H':Hp} {ds:List D} {k:Nat} {is:List Nat} (hk:k=0/\is.length=1\/k≠0/\k=is.length) (S:SS X ad G₀ G' H' ρ σ) (hx:XA X ad Z E) (it:ItG X ad J G' ds) (hr:OKo X ad G₀ (cP (iP is (k==0)) g ds ρ) D' E):
  ∃ W:Nat->Nat->St->Hp->Prop,(∃ m,W 0 m σ H')/\ ∀ i m σ H,W i m σ H->
   (J.stop i H/\D'.nx σ H)\/(J.go i H/\ ∃ N:St->Hp->Prop,(∀ σ' H',N σ' H'-> ∃ m',m'<m/\W (i+1) m' σ' H')/\ ∀ x H',J.yld i H x H'->gTs X.K k is x σ H' fun σ2 H2=>tS X ad Z g { D' with nx:=N,ct:=N,bk:=D'.nx } σ2 H2):=by
 refine⟨fun i m σ H=>m=ds.length - i/\i<=ds.length/\ ∃ G ρ,SS X ad G₀ G H ρ σ/\Same G' G/\OKo X ad G₀ (cP (iP is (k==0)) g (ds.drop i) ρ) D' E,⟨_,rfl,bu _,G',ρ,S,Same.refl _,hr⟩, ?_⟩
 rintro i m σ1 H1 ⟨rfl,hi,G1,ρ1,S1,sm,hr1⟩
 cases q:ds[i]? with
 | none=>
  have hl:ds.length<=i:=List.getElem?_eq_none_iff.mp q
  have:i=ds.length:=by omega
  subst this
  refine .inl ⟨it.stop G1 H1 sm S1.st.gh, ?_⟩
  rw [List.drop_length] at hr1
  exact hr1 σ1 G1 H1 S1
 | some d=>
  have hlt:i<ds.length:=(ay.mp q).1
  obtain⟨go,yl⟩:=it.go i G1 H1 d sm S1.st.gh q
  refine .inr ⟨go,fun σ' H'=> ∃ G ρ,SS X ad G₀ G H' ρ σ'/\Same G' G/\OKo X ad G₀ (cP (iP is (k==0)) g (ds.drop (i+1)) ρ) D' E,fun σ' H' ⟨Ga,ρa,Sa,sa,ra⟩=>⟨_,by omega,rfl,hlt,Ga,ρa,Sa,sa,ra⟩,fun x H2 y=> ?_⟩
  obtain⟨G2,st,r2⟩:=yl x H2 y
  rw [sV q] at hr1
  unfold cP at hr1
  cases et:iP is (k==0) d ρ1 with
  | none=>rw [et] at hr1;exact hr1.elim
  | some ρ2=>
   rw [et] at hr1
   have S2:=S1.step st
   refine zJ hk et S2 r2 fun σ2 S3=> ?_
   refine⟨G2,G2,ρ2,E,S3.here,hx, ?_⟩
   have hr2:OKo X ad G₀ (match g ρ2 with
    | .nx ρ2=>cP (iP is (k==0)) g (ds.drop (i+1)) ρ2
    | .ct ρ2=>cP (iP is (k==0)) g (ds.drop (i+1)) ρ2
    | .bk ρ2=> .nx ρ2
    | .rt r=> .rt r
    | .ex c ρ2=> .ex c ρ2) D' E:=hr1
   cases eo:g ρ2 with
   | nx ρ3=>
    rw [eo] at hr2
    exact fun σ G H S4=>⟨G,ρ3,S4.up S3.st,(sm.trans st.sg).trans S4.st.sg,hr2⟩
   | ct ρ3=>
    rw [eo] at hr2
    exact fun σ G H S4=>⟨G,ρ3,S4.up S3.st,(sm.trans st.sg).trans S4.st.sg,hr2⟩
   | bk ρ3=>
    rw [eo] at hr2
    exact fun σ G H S4=>hr2 σ G H (S4.up S3.st)
   | ex c ρ3=>
    rw [eo] at hr2
    exact fun σ G H S4=>hr2 σ G H (S4.up S3.st)
   | rt r=>
    rw [eo] at hr2
    have:=hr2.rebase S3.st
    cases r<;>exact this
theorem aGv {k:Nat} {is:List Nat} {xs:List Str} (hp:PassesOwn (model X.prog X.w) X.A X.env X.xe) (hc:X.calm=true) (hN:X.N.Nodup) (hi:MIG X ad tg it f) (ht:bH tg=some (xs,k)) (hn:NmsOk X xs is) (hb:MSs X ad Z body g)
  (hs: ∀ x,foldedSetIterable it X.env x=pure x):MS X ad Z (.For tg it body [] pos) (wF is (k==0) f g):=by
 obtain⟨P,hk⟩:=aB8 hc hN ht hn
 refine PS.imp (yM hp hc hi P hb hs) ?_
 rintro D' σ H ⟨G₀,G,ρ,E,S,hx,hr⟩
 refine⟨G,ρ,E σ,S.st.gh,S.sl,hx.1 σ, ?_⟩
 unfold wF fE at hr
 cases e:f ρ with
 | ok d=>
  rw [e] at hr
  have hr':OKo X ad G₀ (match items d with | some ds=>cP (iP is (k==0)) g ds ρ | none=> .rt .bad) D' E:=hr
  cases e2:items d with
  | none=>rw [e2] at hr';exact hr'.elim
  | some ds=>
   rw [e2] at hr'
   exact⟨ds,e2,fun J G' H' st it=>gA hk (S.step st) hx it hr'⟩
 | ow xs=>
  rw [e] at hr
  exact fun J G' H' st it=>gA hk (S.step st) hx it hr
 | ex c=>rw [e] at hr;exact fun G1 H1 st=>hr σ G1 H1 (S.step st)
 | bad=>rw [e] at hr;exact hr
theorem wV {c:Expr} (hp:PassesOwn (model X.prog X.w) X.A X.env X.xe) (hc:MT X ad c f) (hb:MSs X ad Z body g):MS X ad Z (.While c body [] pos) (yR f g):=by
 refine PS.imp (vX hp hc hb) ?_
 rintro D' σ H ⟨G₀,G,ρ,E,S,hx,hr⟩
 refine⟨fun m σ H=> ∃ G ρ,SS X ad G₀ G H ρ σ/\OKo X ad G₀ (dS f g m ρ) D' E,⟨_,G,ρ,S,hr⟩, ?_⟩
 rintro m σ1 H1 ⟨G1,ρ1,S1,hr1⟩
 cases m with
 | zero=>exact hr1.elim
 | succ m=>
  unfold dS at hr1
  cases e:f ρ1 with
  | ok d=>
   rw [e] at hr1
   cases d<;>try exact hr1.elim
   rename_i k
   refine⟨G1,ρ1,E σ1,S1.st.gh,S1.sl,hx.1 σ1, .inl ⟨k,e⟩, ?_⟩
   rw [e]
   intro v G2 H2 st r
   unfold Rep at r;subst r
   refine⟨k,rfl, ?_⟩
   have S2:=S1.step st
   cases k with
   | false=>exact q0 (hr1 σ1 G2 H2 S2)
   | true=>
    refine p8 ⟨fun σ' H'=> ∃ G ρ,SS X ad G₀ G H' ρ σ'/\OKo X ad G₀ (dS f g m ρ) D' E,fun σ' H' ⟨Ga,ρa,Sa,ra⟩=>⟨m,Nat.lt_succ_self _,Ga,ρa,Sa,ra⟩,G2,G2,ρ1,E,S2.here,hx, ?_⟩
    have hr2:OKo X ad G₀ (match g ρ1 with
     | .nx ρ'=>dS f g m ρ'
     | .ct ρ'=>dS f g m ρ'
     | .bk ρ'=> .nx ρ'
     | .rt r=> .rt r
     | .ex k ρ'=> .ex k ρ') D' E:=hr1
    cases eo:g ρ1 with
    | nx ρ3=>rw [eo] at hr2;exact fun σ G H S4=>⟨G,ρ3,S4.up S2.st,hr2⟩
    | ct ρ3=>rw [eo] at hr2;exact fun σ G H S4=>⟨G,ρ3,S4.up S2.st,hr2⟩
    | bk ρ3=>rw [eo] at hr2;exact fun σ G H S4=>hr2 σ G H (S4.up S2.st)
    | ex c ρ3=>rw [eo] at hr2;exact fun σ G H S4=>hr2 σ G H (S4.up S2.st)
    | rt r=>
     rw [eo] at hr2
     have:=hr2.rebase S2.st
     cases r<;>exact this
  | ow xs=>rw [e] at hr1;exact hr1.elim
  | ex k=>
   rw [e] at hr1
   refine⟨G1,ρ1,E σ1,S1.st.gh,S1.sl,hx.1 σ1, .inr ⟨k,e⟩, ?_⟩
   rw [e]
   exact fun G2 H2 st=>hr1 σ1 G2 H2 (S1.step st)
  | bad=>rw [e] at hr1;exact hr1.elim
theorem aGw {st:Stmt}:MS X ad Z st aI0:=fun _ _ _ _ _ _ ⟨_,_,_,_,_,_,hr⟩=>ba hr
end
section
variable {X:Cx} {ad:Ad} {pins:List (Addr×Obj)} {s s3:Shared} {σ σ2:St} {H G G₀ H3 H':Hp} {ρ:Rho} {Q:VK} {D':Ends} {E:St->Nat->Hp->Prop} {pos pos' cpos:Pos} {elt it tg:Expr} {ifs:List Expr} {f fi fe:F} {fc:Option F} {sc:Scope} {k:Nat} {cs:List Nat} {xs:List Str}
theorem nF {s2:Shared} {h':Heap} (I3:Inv X pins σ H3 s3) (I2:Inv X pins σ2 H' s2) (hf:H' s3.heap.objs.size=none) (sb:Heap.SameBut s3.heap.objs.size s2.heap h'):Inv X pins σ2 H' { s2 with heap:=h' }:=by
 refine I2.turned (t':=s2.toks) (it:=s3.heap.objs.size) (fun b o ne e=>(sb.2 b ne).trans e) hf ?_ (.inr I3.sz) (fun x c h z=> ?_) fun p hp z=> ?_
 ·intro z
  obtain⟨m,hn,_⟩:=I3.loc
  obtain⟨o,_,_,ho,_⟩:=hn
  exact absurd (ai ho) (by rw [<-z];exact Nat.lt_irrefl _)
 ·obtain⟨v,o,ho,_⟩:=I3.cell x c h
  exact absurd (ai ho) (by rw [z];exact Nat.lt_irrefl _)
 ·obtain⟨ho,_⟩:=I3.pin p hp
  exact absurd (ai ho) (by rw [z];exact Nat.lt_irrefl _)
theorem wW {h h':Heap} {a C:Addr} {m:Str->Option Value} (n:h.Ns C m) (sb:Heap.SameBut a h h') (ne:C≠a):h'.Ns C m:=by
 obtain⟨o,es,ep,ho,r⟩:=n
 exact⟨o,es,ep,(sb.2 C ne).trans ho,r⟩
theorem aB9 {C:Ctx} {i:Nat} {x:Str} (hN:X.N.Nodup) (hi:aGu X x i) (hc:X.calm=true) (S:CompSc X C sc xs cs) (hit:MI X ad tg it fi) (hset: ∀ a b c,it≠ .Set a b c) (hxs:xs.length=if k=0 then 1 else k)
  (hg: ∀ fp s3 H3 pins',PG (cX X (xs++aN sc) sc s3 H3 fp pins') tg (gTg X.K k)) (hts: ∀ fp s3 H3 pins',MTs (cX X (xs++aN sc) sc s3 H3 fp pins') ad ifs fc) (he: ∀ fp s3 H3 pins',ME (cX X (xs++aN sc) sc s3 H3 fp pins') ad elt fe)
  (hs:swapsWith (.ListComp elt [⟨tg,it,ifs,0⟩] sc cpos) (some (.Name x pos')) pos.line X.env=pure true):
  PS X (.Assign [.Name x pos'] (.ListComp elt [⟨tg,it,ifs,0⟩] sc cpos) pos) (aAs (tE X ad (eW k cs fi fc fe)) (gO i)):=by
 intro pins s σ H D' I ⟨G,ρ,E,hG,hS,hx,hr⟩
 rw [exec_Assign_Name_used _ _ _ _ hs]
 have hcl:closureFor sc X.env=pure (hJ X.env.cells sc.names []):=fI fun x hx=>by
  obtain⟨c,h⟩:=I.ok.has x (S.fre x hx)
  rw [h];rfl
 refine ae (wpAny_standAt (ae ?_))
 show wpAny _ X.A (do let _<-comprehension (.ListComp elt [⟨tg,it,ifs,0⟩] sc cpos) sc X.env _ (newList []) false (eval it X.env) (some (assign (.Name x pos') X.env))) _ _ s
 refine ae (wpAny_mono (wpAny_comprehension_free (use:=some (assign (.Name x pos') X.env)) (Q:=fun _ s'=>SP X pins D' .next s') rfl (wR hset) hcl S.kind S.names ?_) (fun _ s' hq=>af (af hq)) fun _ _ e=>e)
 refine L2.thn (hit pins s σ H _ I ⟨G,ρ,E,hG,hS,hx,aGq (W:=fun J H2=> ∃ G2 ds all,Step G H G2 H2/\ItH X ad J G2 H2 ds/\bZ (d9 k (q8 cs ρ) fc fe) ds=some all/\RK X.K ad G2 H2 (.ow all) (fun v H1=>gO i v σ H1 D'.nx) E) hr fun J G2 H2 ds all a b c d=>⟨G2,ds,all,a,b,c,d⟩⟩) fun v s1 h1=>
  L2.thn h1 fun itv s2 hz_=> ?_
 obtain⟨itA,fp,tn,J,H2,e,I2,T,st2,f2,G2,ds,all,sp,hit,hgo,hr2⟩:=hz_
 subst e
 obtain⟨σc,l1,l2,l3⟩:=i6 (xs:=xs) (sc:=sc) (nt:=if k=0 then 1 else k) hxs S.N S.cs (fun x h=>lU h) (hS.step sp) I2.len
 refine lT (σc:=σc) hc I2 T st2 f2 hit hgo sp.gh S.kind S.cell S.fre S.frl l1 l2 rfl l3 (hg fp) (hts fp) (he fp) fun s3 s' H3 H' G' σ' D vs I3 f3 J' sp' hD gD hD' r'=> ?_
 obtain⟨m,hns,_⟩:=J'.loc
 have I4:Inv X pins σ H' s':=zF (fpO:=f3) I3 J' ⟨rfl,fun _ _=>rfl⟩
 show wpAny _ X.A (assign (.Name x pos') X.env (.ref D)) _ _ _
 refine wpAny_assign_Name (kF I4 hN hi.1 hi.2.1 (v:= .ref D) rfl (fun s'' I5 ⟨a,sb,ha⟩=> ?_) hi.2.2)
 have ne:s3.heap.objs.size≠a:=by
  rcases ha with rfl | ha
  ·intro z
   obtain⟨m',hn,_⟩:=I3.loc
   obtain⟨o,_,_,ho,_⟩:=hn
   exact absurd (ai ho) (by rw [<-z];exact Nat.lt_irrefl _)
  ·intro z
   obtain⟨v,o,ho,_⟩:=I3.cell x a ha
   exact absurd (ai ho) (by rw [<-z];exact Nat.lt_irrefl _)
 refine⟨m,wW hns sb ne,fun h' sb'=> ?_⟩
 exact⟨σ.set i (some (.ref D)),H',nF I3 I5 J'.free sb',hr2 D vs G' H' sp' hD gD hD' r'⟩
end
section
variable {X:Cx} {ad:Ad} {Z:(St->Nat->Hp->Prop)->Prop} {e:Expr} {f:F}
noncomputable def aKg (K:PySem.W.Frag) (i:Nat):TI:=fun σ H W=> ∃ a vs,σ[i]? =some (some (.ref a))/\SqL K H a vs/\W (Itl K a) H
theorem aGx {tg:Expr} {i:Nat} {x:Str} {p:Pos} (hN:X.N[i]? =some x) (hv:Vis X.env.scope x) (hd:(x==("__debug__":Str))=false) (hcd:(x==("__classdict__":Str))=false):PI X tg (.Name x p) (aKg X.K i):=by
 intro pins s σ H W I ⟨a,vs,h1,hq,hw⟩
 refine L2.thn (aV hN hv hd hcd pins s σ H (fun v H1=>v= .ref a/\H1=H) I ⟨.ref a,h1,rfl,rfl⟩) fun u s1 ⟨v,H1,I1,r1,e1,e2⟩=> ?_
 subst e1 e2
 cases (show u=Value.ref a from r1)
 obtain⟨its,rv,pt,hz⟩:=I1.list hq
 refine wpAny_pyIter_list pt.isList ?_
 refine⟨s1.heap.objs.size,[s1.heap.objs.size],_,_,H1,rfl,I1.kept (t':=s1.toks) fun b o e=>ag _ e,gP a _,⟨_,ah _ rfl,rfl,rfl⟩,fun b hb=> ?_,hw⟩
 have e:b=s1.heap.objs.size:=by simpa using hb
 subst e
 exact I1.fpOk (ak _) (I1.hok.fresh (ak _))
theorem aCa {i j t:Nat} {x y z:Str} {px py p ap cp pos pos':Pos} (hp:PassesOwn (model X.prog X.w) X.A X.env X.xe) (hc:X.calm=true) (hND:X.N.Nodup) (hy1:X.N[i]? =some y) (hy2:Vis X.env.scope y) (hy3:(y==("__debug__":Str))=false) (hy4:(y==("__classdict__":Str))=false)
  (hz1:X.N[j]? =some z) (hz2:Vis X.env.scope z) (hz3:(z==("__debug__":Str))=false) (hz4:(z==("__classdict__":Str))=false) (ht:aGu X x t) (hti:t≠i) (hij:i≠j) (he:ME X ad e f) (hs:starEach [e] X.env=(false,eval e X.env)::starEach [] X.env)
  (hline:(ap.endLine==cp.line)=true):MS X ad Z (.For (.Name x px) (.Name y py) [.Expr (.Call (.Attribute (.Name z p) "extend" ap) [e] [] cp) pos'] [] pos) (aBa t i (iO j f)):=by
 refine PS.imp (yM hp hc (aGx hy1 hy2 hy3 hy4) (fF hND ht.1 ht.2.1 ht.2.2) (jG (dR (wA (T:="list") PySem.F.plainAttrs_list PySem.F.slot_list_extend PySem.F.type_list_extend zI (aV hz1 hz2 hz3 hz4) (bU he cI hs) rfl (d6 hs) hline hs rfl) rfl)) (fun _=>rfl)) ?_
 rintro D' σ H ⟨G₀,G,ρ,E,S,hx,hr⟩
 unfold aBa at hr
 cases q:ρ[i]? with
 | none=>rw [q] at hr;exact hr.elim
 | some sl=>
  rw [q] at hr
  cases sl with
  | no=>exact hr.elim
  | sh d=>exact hr.elim
  | dc d=>exact hr.elim
  | sd d=>exact hr.elim
  | rk _ _=>exact hr.elim
  | ow ds=>
   have hr:OKo X ad G₀ (cP (iP [t] true) (iO j f) ds ρ) D' E:=hr
   obtain⟨a,vs,h1,h2,h3,h4⟩:=S.sl.ow q
   refine⟨a,vs,h1,SqL.of h3,fun k m σ H=>m=ds.length - k/\k<=ds.length/\ ∃ G ρ,SS X ad G₀ G H ρ σ/\σ[i]? =some (some (.ref a))/\ρ[i]? =some (.ow ds)/\OKo X ad G₀ (cP (iP [t] true) (iO j f) (ds.drop k) ρ) D' E,⟨_,rfl,bu _,G,ρ,S,h1,q,hr⟩, ?_⟩
   rintro k m σ1 H1 ⟨rfl,hk,G1,ρ1,S1,ha,hρ,hr1⟩
   obtain⟨a',vs1,e1,g1,l1,rp1⟩:=S1.sl.ow hρ
   rw [ha] at e1
   cases e1
   cases qd:ds[k]? with
   | none=>
    have hl:ds.length<=k:=List.getElem?_eq_none_iff.mp qd
    have:k=ds.length:=by omega
    subst this
    refine .inl ⟨⟨vs1,SqL.of l1,by rw [rp1.length];exact ak _⟩, ?_⟩
    rw [List.drop_length] at hr1
    exact hr1 σ1 G1 H1 S1
   | some d=>
    have hlt:k<ds.length:=(ay.mp qd).1
    obtain⟨v,ev,rv⟩:=rp1.get qd
    refine .inr ⟨⟨vs1,v,SqL.of l1,ev⟩,fun σ' H'=> ∃ G ρ,SS X ad G₀ G H' ρ σ'/\σ'[i]? =some (some (.ref a))/\ρ[i]? =some (.ow ds)/\OKo X ad G₀ (cP (iP [t] true) (iO j f) (ds.drop (k+1)) ρ) D' E,fun σ' H' ⟨Ga,ρa,Sa,sa,qa,ra⟩=>⟨_,by omega,rfl,hlt,Ga,ρa,Sa,sa,qa,ra⟩, ?_⟩
    rintro v' H2 ⟨rfl,yv⟩
    have:=yv vs1 (SqL.of l1)
    rw [ev] at this
    cases this
    rw [sV qd] at hr1
    unfold cP at hr1
    have hr2:OKo X ad G₀ (match iO j f (ρ1.set t (.sh d)) with
     | .nx ρ2=>cP (iP [t] true) (iO j f) (ds.drop (k+1)) ρ2
     | .ct ρ2=>cP (iP [t] true) (iO j f) (ds.drop (k+1)) ρ2
     | .bk ρ2=> .nx ρ2
     | .rt r=> .rt r
     | .ex c ρ2=> .ex c ρ2) D' E:=hr1
    clear hr1
    have S2:SS X ad G₀ G1 H2 (ρ1.set t (.sh d)) (σ1.set t (some v)):=S1.set rv
    have ha2:(σ1.set t (some v))[i]? =some (some (.ref a)):=by rw [bd hti];exact ha
    have hρ2:(ρ1.set t (.sh d))[i]? =some (.ow ds):=by rw [bd hti];exact hρ
    generalize ρ1.set t (.sh d)=ρ2 at S2 hρ2 hr2
    cases q2:ρ2[j]? with
    | none=>
     have:iO j f ρ2= .rt .bad:=by unfold iO;rw [q2]
     rw [this] at hr2;exact hr2.elim
    | some sl=>
     have bad: ∀ sl,ρ2[j]? =some sl->(∀ xs,sl≠ .ow xs)->iO j f ρ2= .rt .bad:=fun sl q2 h=>by
      unfold iO;rw [q2]
      cases sl with
      | ow xs=>exact absurd rfl (h xs)
      | _=>rfl
     cases sl with
     | no=>rw [bad _ q2 (fun _ z=>nomatch z)] at hr2;exact hr2.elim
     | sh d=>rw [bad _ q2 (fun _ z=>nomatch z)] at hr2;exact hr2.elim
     | dc d=>rw [bad _ q2 (fun _ z=>nomatch z)] at hr2;exact hr2.elim
     | sd d=>rw [bad _ q2 (fun _ z=>nomatch z)] at hr2;exact hr2.elim
     | rk _ _=>rw [bad _ q2 (fun _ z=>nomatch z)] at hr2;exact hr2.elim
     | ow xs=>
      obtain⟨b,ws,b1,b2,b3,b4⟩:=S2.sl.ow q2
      refine⟨.ref b,b1, .inl ⟨rfl,ws,SqL.of b3⟩, ?_⟩
      have es:iO j f ρ2=fE ρ2 (f ρ2) fun d=>(match d with
       | .lst ys=>if xs.length+ys.length<=LIM then .nx (ρ2.set j (.ow (xs++ys))) else .rt .bad
       | _=> .rt .bad):=by unfold iO;rw [q2]<;>rfl
      have fin: ∀ (ys:List D) (w:V) (G3 H3:Hp),Step G1 H2 G3 H3->Rep X.K ad G3 (.lst ys) w->OKo X ad G₀ (match(if xs.length+ys.length<=LIM then Out.nx (ρ2.set j (.ow (xs++ys))) else .rt .bad) with
        | .nx ρ2=>cP (iP [t] true) (iO j f) (ds.drop (k+1)) ρ2
        | .ct ρ2=>cP (iP [t] true) (iO j f) (ds.drop (k+1)) ρ2
        | .bk ρ2=> .nx ρ2
        | .rt r=> .rt r
        | .ex c ρ2=> .ex c ρ2) D' E->aL8 X.K (.ref b) [w] H3 fun _ H4=> ∃ G ρ,SS X ad G₀ G H4 ρ (σ1.set t (some v))/\(σ1.set t (some v))[i]? =some (some (.ref a))/\ρ[i]? =some (.ow ds)/\OKo X ad G₀ (cP (iP [t] true) (iO j f) (ds.drop (k+1)) ρ) D' E:=by
       intro ys w G3 H3 st r hr3
       by_cases hcl:xs.length+ys.length<=LIM
       ·rw [if_pos hcl] at hr3
        obtain⟨g3,h3'⟩:=cL st b2 b3
        unfold Rep at r
        obtain⟨c,us,rfl,hq,rq⟩:=r
        refine⟨b,c,ws,us,rfl,rfl,h3',st.gh.seq hq, ?_,G3,ρ2.set j (.ow (xs++ys)),(S2.step st).upd q2 b1 g3 ((b4.mono st.sg).append rq),ha2,by rw [bd (Ne.symm hij)];exact hρ2,hr3⟩
        rw [b4.length,rq.length]
        exact Nat.le_trans hcl (by decide)
       ·rw [if_neg hcl] at hr3
        exact hr3.elim
      rw [es] at hr2
      refine⟨G1,ρ2,E (σ1.set t (some v)),S2.st.gh,S2.sl,hx.1 _, ?_⟩
      unfold fE at hr2
      cases ef:f ρ2 with
      | ok d=>
       rw [ef] at hr2
       intro v3 G3 H3 st r
       cases d<;>try exact hr2.elim
       rename_i ys
       exact fin ys v3 G3 H3 st r hr2
      | ow ys=>
       rw [ef] at hr2
       intro p3 vs3 G3 H3 st n m3 e3 r3
       obtain⟨G4,st4,r4⟩:=bB (X:=X) (ad:=ad) st n m3 e3 r3
       exact fin ys _ G4 H3 st4 r4 hr2
      | ex c=>
       rw [ef] at hr2
       exact fun G3 H3 st=>hr2 _ G3 H3 (S2.step st)
      | bad=>rw [ef] at hr2;exact hr2.elim
end
open PySem.Calls Builtin Builtin.ObjectAttr Builtin.Getset_descriptor
section
variable {prog:Program} {w:World} {A:Around} {E:Value->Shared->Prop} {s:Shared} {K:Frag} {x C:Addr} {R:Result->Shared->Prop}
theorem jL.ty {M:Model} {h:Heap} (I:jL h x C):Looks M h (typeOf (.ref x)) (.ref C):=by
 obtain⟨o,vs,h1,h2,h3⟩:=I
 exact h2▸(Looks.ld h1).andThen .now
theorem aCb {tp:Value} (X:K.In s.heap) (I:jL s.heap x C) (hm:mroIn K C (.type "object")=some true) (h:R (.ok (.ret (.ref C))) s):
  codeAny (model prog w) A (.call (.builtin "getset_descriptor.__get__") ⟨[.builtin "object.__class__", .ref x,tp],[]⟩) R s:=by
 obtain⟨hh,g,dr,t,os⟩:=s
 have L0:=I.ty (M:=model prog w)
 have L1:=looks_mroIn (M:=model prog w) X hm
 refine codeAny_call_builtin KF.slot_gs.plain KF.entry_gs (KF.slot_gs.check _ _ _ _ _ _ _ _ KF.type_class (KF.args_gs _ _ _) ?_)
 unfold Builtin.«getset_descriptor.__get__» descrGet
 rw [dga_obj]
 refine ae (af ?_)
 unfold descrGetter descrCheckInstance descrNameAndClass isInstance
 simp only [KF.owner_class]
 repeat lk
 refine⟨Code.quiet_builtin _ (by decide+kernel),codeAny_builtin KF.entry_class ?_⟩
 unfold Builtin.«object.__class__» shownTypeOf
 repeat lk
 exact h
theorem sW {M:Model} {nameV:Value} {Q:Unit->Shared->Prop} (X:K.In s.heap) (I:jL s.heap x C) (hm:mroIn K C (.type "BaseException")=some true) (hq:Q () s):wpAny M A (checkBuiltinCall "BaseException.__getattribute__" ⟨[.ref x,nameV],[]⟩) Q E s:=by
 obtain⟨hh,g,dr,t,os⟩:=s
 have hk:builtinKind "BaseException.__getattribute__"=some .slot:=by decide+kernel
 have hsplit:splitId "BaseException.__getattribute__"=some ("BaseException","__getattribute__"):=by decide+kernel
 have L0:=I.ty (M:=M)
 have L1:=looks_mroIn (M:=M) X hm
 have ha:=F.args_bexc_ga (.ref x) nameV
 simp only [checkBuiltinCall,hk,hsplit]
 refine ae ?_
 unfold isInstance
 refine ae (L0.at (L1.at ?_))
 repeat (any_goals (first | assumption | wp_step))
theorem sX {tk:Tok} {Q:PySem.Fin->Shared->Prop} (X:K.In s.heap) (I:jL s.heap x C) (hm:mroIn K C (.type "object")=some true) (ha:findIn K (.ref C) "__class__"=some (some (.builtin "object.__class__"))) (hq:Q (.done (.ret (.ref C))) s):
  wpAny (model prog w) A (Builtin.«object.__getattribute__» ⟨[.ref x, .str "__class__" tk],[]⟩) Q E s:=by
 obtain⟨hh,g,d,t,os⟩:=s
 have hT5:(⟨hh,g,d,t,os⟩:Shared).TypeIs (.builtin "object.__class__") "getset_descriptor":=F.typeOf_object_class
 have f5:=F.typeOf_object_class
 have f6:=F.slot_gs_get.lookup
 have f7:=F.slot_gs_set.lookup
 have L0:=I.ty (M:=model prog w)
 have L1:=looks_findIn (M:=model prog w) X ha
 obtain⟨o,vs,hx,hc,hd⟩:=id I
 repeat (any_goals (first | assumption | (with_reducible refine wpAny_loadPart_at hx ?_;rw [hc]) | with_reducible refine L1.at ?_ | wp_step))
 refine aCb X I hm ?_
 repeat (any_goals (first | assumption | wp_step))
theorem sY {Q:Option Value->Shared->Prop} (X:K.In s.heap) (I:jL s.heap x C) (hm:mroIn K C (.type "object")=some true) (hb:mroIn K C (.type "BaseException")=some true) (ha:findIn K (.ref C) "__class__"=some (some (.builtin "object.__class__")))
  (hg:findIn K (.ref C) "__getattribute__"=some (some (.builtin "BaseException.__getattribute__"))) (hn:findIn K (.ref C) "__getattr__"=some none) (h:Q (some (.ref C)) { s with toks:=s.toks+1 }):
  wpAny (model prog w) A (getAttr? (.ref x) "__class__") Q E s:=by
 obtain⟨hh,g,d,t,os⟩:=s
 have L0:=I.ty (M:=model prog w)
 have L1:=looks_findIn (M:=model prog w) X hg
 have L2:=looks_findIn (M:=model prog w) X hn
 have f3:=PySem.F.excAttr_ValueError.ga.bind (.ref x)
 have hx2:(Value.builtin "BaseException.__getattribute__"==Value.builtin "object.__getattribute__")=false:=by decide+kernel
 have hx1:(onTheHeap (Value.ref C)&&Value.builtin "BaseException.__getattribute__"==Value.builtin "object.__getattribute__")=false:=by rw [hx2];rfl
 obtain⟨o,vs,hx,hc,hd⟩:=id I
 unfold getAttr? getAttrBy? getAttrBy
 repeat (any_goals (first | assumption | (with_reducible refine wpAny_loadPart_at hx ?_;rw [hc]) | with_reducible refine L1.at ?_ | with_reducible refine L2.at ?_ | wp_step))
 refine codeAny_call_builtin PySem.F.excAttr_ValueError.ga.plain F.entry_bexc_ga (sW X I hb (sX X I hm ha ?_))
 repeat (any_goals (first | assumption | wp_step))
end
theorem _root_.L2.ObjOk.there {P:Program} {w:World} {H:Hp} {h:Heap} {a:Addr} {o:HO} (x:ObjOk P w H h a o): ∃ ob,h.get? a=some ob:=by
 cases o with
 | lst xs=>obtain⟨_,_,_,_,e⟩:=x;exact⟨_,e⟩
 | tup xs=>obtain⟨_,_,_,⟨ob,e,_⟩,_⟩:=x;exact⟨_,e⟩
 | dK kvs=>obtain⟨_,_,_,_,o,_,_,e,_⟩:=x;exact⟨_,e⟩
 | dT kvs=>obtain⟨_,_,_,_,o,_,_,e,_⟩:=x;exact⟨_,e⟩
 | set S n=>obtain⟨o,_,_,_,e,_⟩:=x;exact⟨_,e⟩
 | ins C dx fs=>obtain⟨_,_,_,e,_⟩:=x;exact⟨_,e⟩
 | own y=>exact x
 | xd fs=>obtain⟨_,⟨_,_,_,e,_⟩,_⟩:=x;exact⟨_,e⟩
 | rng lo hi=>obtain⟨_,_,_,e⟩:=x;exact⟨_,e⟩
 | frz ob u=>obtain⟨e,_⟩:=x;exact⟨_,e⟩
 | tbl ps=>exact⟨_,(show h.get? a=some _ from x)⟩
 | met f y=>exact⟨_,(show h.get? a=some _ from x)⟩
 | ext φ=>obtain⟨_,e,_⟩:=x;exact e
section
variable {X:Cx} {ad:Ad} {pins:List (Addr×Obj)} {s:Shared} {σ:St} {H H':Hp} {B h':Heap} {ea:Addr} {cls a0:Value} {E₀:XK} {E:Nat->Hp->Prop}
structure DefX (X:Cx) (E₀:XK):Prop where
 ex:X.ex=[]
 stk:X.stack=X.env::X.outer
 fr:X.env.frame=some X.env.locals
 xe: ∀ e s',wpAny (model X.prog X.w) X.A (leaving X.env e) (fun _ s''=>CXe X.prog X.w X.outer X.H₀ X.s₀ E₀ e s'') (fun e' s''=>CXe X.prog X.w X.outer X.H₀ X.s₀ E₀ e' s'') s'->X.xe e s'
theorem oW (J:Inv X pins σ H s) {b:Addr} {o:Obj} (e:X.s₀.heap.get? b=some o):b≠X.env.locals:=fun z=>by
 have:=ai e
 rw [z] at this
 exact absurd (bh this J.ok.above) (Nat.lt_irrefl _)
theorem sZ (J:Inv X pins σ H s) {b:Addr} {o:Obj} (e:X.s₀.heap.get? b=some o) (nf:b∉X.fs):b∉frs X.stack:=fun z=>by
 rcases av.mp (J.stkSub b z) with q | q
 ·exact oW J e q
 ·exact nf q
theorem zK (T:DefX X E₀) (J:Inv X pins σ H' s) (fly:Heap.FlyingW B X.outer ea cls a0 h') (ff:s.heap.FunFrames B X.stack) (stays:B.StaysIn s.heap) (up:s.heap.UpToSlots h')
  (c8: ∀ b o,X.s₀.heap.get? b=some o->b∉X.fs-> ∃ o',B.get? b=some o') (c9: ∀ b o,H' b=some o-> ∃ o',B.get? b=some o') (ne:H' ea=none) (q:E₀ cls none H'):
  CXe X.prog X.w X.outer X.H₀ X.s₀ E₀ (.ref ea) { s with heap:=h' }:=by
 have nx: ∀ b,b∉X.ex:=fun b=>by rw [T.ex];simp
 have st2:B.StaysIn h':=fly.1
 have inB: ∀ b o,s.heap.get? b=some o->(∃ o',B.get? b=some o')->h'.get? b=some o:=fun b o e ⟨o',e'⟩=>by
  have:=stays b o' e'
  rw [e] at this
  cases this
  exact st2 b o e'
 have frame: ∀ b∈X.fs, ∀ o,s.heap.get? b=some o-> ∃ sl,h'.get? b=some { o with slots:=sl }:=fun b hb o e=>by
  obtain⟨_,o2,e2,nf⟩:=ff.mem (b:=b) (by rw [T.stk];show b∈frs (X.env::X.outer);unfold frs;rw [List.filterMap_cons,T.fr];exact List.mem_cons_of_mem _ hb)
  rw [e] at e2
  cases e2
  exact up b o e nf
 refine⟨ea,cls,a0,H',B,rfl,J.os,J.bare,fly,⟨fun b o e n hf _=> ?_,fun b o e n hf _=> ?_,fun b o e n _=> ?_,fun b o e _=> ?_,J.base.tups,J.base.frzs,J.base.tbls⟩,fun b o e=> ?_,ne,c8,c9,q⟩
 ·exact inB b o (J.base.keep b o e n hf (nx b)) (c8 b o e hf)
 ·obtain⟨sl,e1⟩:=J.base.slot b o e n hf (nx b)
  obtain⟨sl',e2⟩:=frame b hf _ e1
  exact⟨sl',e2⟩
 ·exact J.base.free b o e n (nx b)
 ·obtain⟨o',e1⟩:=J.base.there b o e (nx b)
  by_cases hf:b∈X.fs
  ·obtain⟨sl,e2⟩:=frame b hf _ e1
   exact⟨_,e2⟩
  ·exact⟨o',inB b o' e1 (c8 b o e hf)⟩
 ·refine(J.hok b o e).stay (fun c v hc e1=> ?_) (fun _ z=>z) fun _ _ z=>z
  rcases hc with rfl | hc
  ·exact inB c v e1 (c9 c o e)
  ·exact inB c v e1 (c9 c _ hc)
theorem tD (T:DefX X E₀):XP X ad σ (fun c H'=>E₀ (.ref (ad.cls c)) none H'):=by
 intro pins H s e s' I hc
 obtain⟨ea,cls,a0,H',B,rfl,ho,hg,fly,un,hok,ne,c8,c9,c,rfl,q⟩:=hc
 have J:Inv X pins σ H' s':=I.call' (ch:=[]) ho un hok hg fun b hb=>by simp at hb
 refine T.xe _ _ ?_
 have hfr:X.A.frames=some (X.env::X.outer):=by rw [<-T.stk];exact I.ok.frames
 rw [T.stk] at fly
 refine wpAny_leaves_onW hfr T.fr fly fun h' fly' up=> ?_
 refine zK T J fly' (by rw [T.stk];exact fly.2.2.1) fly.1 up (fun b o e hf=> ?_) c9 ne q
 obtain⟨o',e1⟩:=I.base.there b o e (by rw [T.ex];simp)
 exact c8 b o' e1 (sZ I e hf)
theorem oX {x:Str} {C:Addr} {np cpos pos kp:Pos} {msg:Str} {j:Nat} {D':Ends} (T:DefX X E₀) (hc:X.calm=true) (hg:L2.Gl X x) (hm:X.mg x=some (.ref C)) (hd:(x==("__debug__":Str))=false) (hi:excIn X.K C [.type "ValueError", .type "Exception", .type "BaseException", .type "object"] "ValueError.__new__"=true)
  (I:Inv X pins σ H s) (q:E₀ (.ref C) none H):wpAny (model X.prog X.w) X.A (exec (.Raise (some (.Call (.Name x np) [.Constant (.str msg) j kp] [] cpos)) none pos) X.env) (SP X pins D') X.xe s:=by
 have obj: ∀ h₀:Heap,X.K.In h₀-> ∃ bm N nm q bs hdct sn sub ab col dd k0 k1 k2 k3 k5 mN,h₀.get? C=some (excClassObj nm q C N bs bm hdct sn sub ab col dd k0 k1 k2 k3 k5 "ValueError.__new__")/\h₀.Ns N mN/\mN "__init__"=none/\OwnTail h₀ [.type "ValueError", .type "Exception", .type "BaseException", .type "object"] bm:=by
  intro h₀ Z
  have q:=hi
  unfold excIn at q
  split at q
  ·rename_i dd cd sl ho
   split at q
   ·rename_i C' bm k0 k1 k2 k3 n k5 hm hs
    simp only [aw,beq_iff_eq,Bool.not_eq_true'] at q
    obtain⟨⟨⟨⟨⟨rfl,rfl⟩,hdel⟩,ht⟩,hok⟩,hni⟩:=q
    obtain⟨nm,bs,mro,ns,qn,hd,sn,sub,ab,col,del⟩:=cd
    dsimp only at hm hdel hok hni
    subst hm hdel
    have hsl:sl= #[k0,k1,k2,k3,some (.builtin "ValueError.__new__"),k5]:=by
     obtain⟨l⟩:=sl
     simp only at hs
     rw [hs]
    subst hsl
    exact⟨bm,ns,nm,qn,bs,hd,sn,sub,ab,col,dd,k0,k1,k2,k3,k5,_,Z _ _ ho, .of_isNs (isNs_of_in Z hok),nsMap_none_of_in Z hok hni,tail_of_in Z ht⟩
   ·cases q
  ·cases q
 obtain⟨bm,N,nm,qn,bs,hdct,sn,sub,ab,col,dd,k0,k1,k2,k3,k5,mN,hC,hN,hni,hT⟩:=obj X.base I.ok.mod.kin
 refine wpAny_Raise_call_subT (C:=C) (nm:=nm) (q:=qn) (N:=N) (bs:=bs) (bm:=bm) (hdct:=hdct) (sn:=sn) (sub:=sub) (ab:=ab) (col:=col) (dd:=dd) (k0:=k0) (k1:=k1) (k2:=k2) (k3:=k3) (k5:=k5)
  PySem.F.excBase_ValueError (mN:=mN) (hT.hasType PySem.F.excBase_ValueError.hasBase) (I.ok.hd hc) rfl hni (eM I hg hm ⟨rfl, ?_⟩ hd)
 refine Calls.evalArgs_plain (Calls.spliced_cons (Calls.Constant_str (k:=j) (pos:=kp) (Calls.spliced_nil ⟨rfl,(show 1<=sizeLine from by decide), ?_, ?_, ?_,fun h' e M=> ?_⟩)))
 ·exact I.bk _ _ hC
 ·exact hN.keeps I.bk
 ·exact hT.keeps I.bk
 ·-- the frame is left
  have I1:Inv X pins σ H { s with toks:=s.toks+1 }:=I.tok _
  have J:Inv X pins σ H { s with heap:=h',toks:=s.toks+1 }:=I.kept (t':=s.toks+1) M.keeps
  refine T.xe _ _ ?_
  have hfr:X.A.frames=some (X.env::X.outer):=by rw [<-T.stk];exact I.ok.frames
  have ff:s.heap.FunFrames (hideAll s.heap (frs X.stack)) X.stack:=funFrames_hide I.stack fun env he a ea=>List.mem_filterMap.mpr ⟨env,he,ea⟩
  have fk:h'.FunFrames (hideAll s.heap (frs X.stack)) X.stack:=ff.of_keeps fun b o hb _=>⟨o,M.keeps b o hb,rfl⟩
  have stays:(hideAll s.heap (frs X.stack)).StaysIn s.heap:=fun b o e=>of_hideAll _ e
  have ff0:=ff
  rw [T.stk] at ff0
  have stays':(hideAll s.heap (frs (X.env::X.outer))).StaysIn s.heap:=fun b o e=>of_hideAll _ e
  refine wpAny_leaves_madeW (h:=s.heap) (base:=hideAll s.heap (frs (X.env::X.outer))) hfr T.fr stays' ff0 M fun h2 t fly _ _ up=> ?_
  refine zK T J fly (by rw [T.stk] at fk ⊢;exact fk) (fun b o e=>M.keeps b o (of_hideAll _ e)) up (fun b o e hf=> ?_) (fun b o e=> ?_) ?_ q
  ·obtain⟨o',e1⟩:=I.base.there b o e (by rw [T.ex];simp)
   exact⟨o',hideAll_get _ e1 (by have:=sZ I e hf;rwa [T.stk] at this)⟩
  ·obtain⟨o',e1⟩:=(I.hok b o e).there
   exact⟨o',hideAll_get _ e1 fun z=>by
    have:=I.stkFree b (by rw [T.stk];exact z)
    rw [this] at e
    cases e⟩
  ·cases z:H e with
   | none=>rfl
   | some o=>
    obtain⟨o',e1⟩:=(I.hok e o z).there
    rw [M.new] at e1
    cases e1
end
section
variable {X:Cx} {ad:Ad} {pins:List (Addr×Obj)} {s:Shared} {σ:St} {H H':Hp} {B h':Heap} {ea:Addr} {cls a0:Value} {E₀:XK}
theorem wX {M:Model} {A:Around} {E:Value->Shared->Prop} {i:Nat} {x:Str} {v:V} {Q:Unit->Shared->Prop} (I:Inv X pins σ H s) (hN:X.N.Nodup) (hi:X.N[i]? =some x) (hk:X.env.scope.names.lookup x=some .local) (hv:σ[i]? =some (some v))
  (h: ∀ s',Inv X pins (σ.set i none) H s'->Q () s'):wpAny M A (unbindName X.env x) Q E s:=by
 obtain⟨m,hn,hl⟩:=id I.loc
 have hcls:(X.env.scope.kind== .class||(X.env.scope.kind== .module&&X.env.locals != X.env.globals))=false:=by rw [I.ok.kind];rfl
 have cne:=I.cne
 obtain⟨u0,_,l0⟩:=hl i x v hi hv (.inl hk)
 have hm:m x=some u0:=by
  rcases l0 with ⟨_,e⟩ | ⟨k,_⟩
  ·exact e
  ·rcases k with k | k
   ·have:X.env.kindOf x=some .local:=hk
    rw [this] at k;cases k
   ·have:X.env.kindOf x=some .local:=hk
    rw [this] at k;cases k
 refine wpAny_unbindName_local hk hn hm hcls fun h' u hn' hs=> ?_
 obtain⟨oL,_,_,hoL,_⟩:=id hn
 refine h { s with heap:=h' } ⟨I.ok,I.os,I.bare,⟨fun b o e n hb hx=> ?_,fun b o e n hb hx=> ?_,I.base.free,fun b o e hx=> ?_,I.base.tups,I.base.frzs,I.base.tbls⟩,⟨_,hn',fun j y v' e1 e2 e3=> ?_⟩,fun y c e=> ?_,I.free,I.freeC,fun p hp=> ?_,fun b ob e=> ?_,by simpa using I.len⟩
 ·exact(hs.2 b (oW I e)).trans (I.base.keep b o e n hb hx)
 ·obtain⟨sl,e1⟩:=I.base.slot b o e n hb hx
  exact⟨sl,(hs.2 b (oW I e)).trans e1⟩
 ·obtain⟨o',e1⟩:=I.base.there b o e hx
  exact⟨o',(hs.2 b (oW I e)).trans e1⟩
 ·by_cases hj:j=i
  ·subst hj
   have hlt:j<σ.length:=(ay.mp hv).1
   rw [bn hlt] at e2
   cases e2
  ·rw [bd (Ne.symm hj)] at e2
   obtain⟨u',r',q⟩:=hl j y v' e1 e2 e3
   refine⟨u',r', ?_⟩
   rcases q with ⟨k,e⟩ | ⟨k,c,e,z⟩
   ·refine .inl ⟨k, ?_⟩
    have:y≠x:=fun e=>hj (jF hN e1 (e▸hi))
    simp [this,e]
   ·exact .inr ⟨k,c,e,z.sameBut hs (cne y c e)⟩
 ·obtain⟨w',z⟩:=I.cell y c e
  exact⟨w',z.sameBut hs (cne y c e)⟩
 ·obtain⟨e,n,ne,nf,d⟩:=I.pin p hp
  exact⟨(hs.2 p.1 ne).trans e,n,ne,nf,d⟩
 ·refine(I.hok b ob e).stay (fun c w' hc q=>(hs.2 c ?_).trans q) (fun _ q=>q) fun _ _ q=>q
  rintro rfl
  rcases hc with rfl | hc
  ·rw [I.free] at e;cases e
  ·rw [I.free] at hc;cases hc
theorem aKh {fs:List Addr} {h h1 h2:Heap} (un:Un fs [] H H' h h1) (stays:B.StaysIn h1) (st2:B.StaysIn h2) (up:h1.UpToSlots h2) (nf: ∀ b∈fs, ∀ o,h1.get? b=some o-> ∀ vs,o.data≠ .fields vs) (c8: ∀ b o,h.get? b=some o->b∉fs-> ∃ o',B.get? b=some o'):Un fs [] H H' h h2:=by
 have inB: ∀ b o,h1.get? b=some o->(∃ o',B.get? b=some o')->h2.get? b=some o:=fun b o e ⟨o',e'⟩=>by
  have:=stays b o' e'
  rw [e] at this
  cases this
  exact st2 b o e'
 refine⟨fun b o e n hf hx=>inB b o (un.keep b o e n hf hx) (c8 b o e hf),fun b o e n hf hx=> ?_,un.free,fun b o e hx=> ?_,un.tups,un.frzs,un.tbls⟩
 ·obtain⟨sl,e1⟩:=un.slot b o e n hf hx
  obtain⟨sl',e2⟩:=up b _ e1 (nf b hf _ e1)
  exact⟨sl',e2⟩
 ·obtain⟨o',e1⟩:=un.there b o e hx
  by_cases hf:b∈fs
  ·obtain⟨sl,e2⟩:=up b _ e1 (nf b hf _ e1)
   exact⟨_,e2⟩
  ·exact⟨o',inB b o' e1 (c8 b o e hf)⟩
theorem aGy {P:Program} {w:World} {h1 h2:Heap} (hok:HOk P w H' h1) (stays:B.StaysIn h1) (st2:B.StaysIn h2) (c9: ∀ b o,H' b=some o-> ∃ o',B.get? b=some o'):HOk P w H' h2:=by
 have inB: ∀ b o,h1.get? b=some o->(∃ o',B.get? b=some o')->h2.get? b=some o:=fun b o e ⟨o',e'⟩=>by
  have:=stays b o' e'
  rw [e] at this
  cases this
  exact st2 b o e'
 intro b o e
 refine(hok b o e).stay (fun c v hc e1=> ?_) (fun _ z=>z) fun _ _ z=>z
 rcases hc with rfl | hc
 ·exact inB c v e1 (c9 c o e)
 ·exact inB c v e1 (c9 c _ hc)
theorem _root_.L2.Inv.track {a:Addr} {o:HO} (J:Inv X pins σ H s) (hn:H a=none) (n0:X.s₀.heap.get? a=none) (hL:a≠X.env.locals) (hC: ∀ x c,X.env.cells.lookup x=some c->c≠a) (hp: ∀ p∈X.pn++pins,p.1≠a)
  (new:ObjOk X.prog X.w (upd H a o) s.heap a o):Inv X pins σ (upd H a o) s:=by
 refine⟨J.ok,J.os,J.bare,⟨J.base.keep,J.base.slot,fun b ob e n hx=> ?_,J.base.there,fun b xs e=> ?_,fun b ob u e=> ?_,fun b ps e=> ?_⟩,J.loc,J.cell, ?_,fun x c e=> ?_,fun p hq=> ?_,fun b u e=> ?_,J.len⟩
 ·have:b≠a:=fun z=>by rw [z,n0] at e;cases e
  rw [aA this]
  exact J.base.free b ob e n hx
 ·have e1:=J.base.tups b xs e
  rw [aA (aK e1 hn)]
  exact e1
 ·have e1:=J.base.frzs b ob u e
  rw [aA (aK e1 hn)]
  exact e1
 ·obtain⟨m,e1⟩:=J.base.tbls b ps e
  exact⟨m,by rw [aA (aK e1 hn)];exact e1⟩
 ·rw [aA (Ne.symm hL)]
  exact J.free
 ·rw [aA (hC x c e)]
  exact J.freeC x c e
 ·obtain⟨e,n,ne,nf,d⟩:=J.pin p hq
  exact⟨e,by rw [aA (hp p hq)];exact n,ne,nf,d⟩
 ·by_cases hb:b=a
  ·subst hb
   rw [aC] at e
   cases e
   exact new
  ·rw [aA hb] at e
   exact(J.hok b u e).stay (fun _ _ _ q=>q) (fun c q=>by rw [aA (aK q hn)];exact q) fun c xs q=>by rw [aA (aK q hn)];exact q
end
noncomputable def tX (X:Cx) (pins:List (Addr×Obj)) (D':Ends) (hd:ExceptHandler):Cx:=
 { X with pn:=X.pn++pins,xe:=fun e s₁=>wpAny (model X.prog X.w) X.A (noteFrame e X.env) (fun _ s₂=>wpAny (model X.prog X.w) X.A (setFlight e none) (fun _ s₃=>wpAny (model X.prog X.w) X.A (handleBy e X.env [hd]) (SP X pins D') X.xe s₃) X.xe s₂) X.xe s₁ }
section
variable {X:Cx} {ad:Ad} {pins pins':List (Addr×Obj)} {s:Shared} {σ:St} {H H':Hp} {B h':Heap} {ea:Addr} {cls a0:Value} {D':Ends} {hd:ExceptHandler}
theorem aKi (I:Inv X pins σ H s):Inv (tX X pins D' hd) [] σ H s:=
 ⟨⟨I.ok.mod,I.ok.kind,I.ok.glob,I.ok.blt,I.ok.above,I.ok.inj,I.ok.has,I.ok.cab,I.ok.hd,I.ok.frames,I.ok.stk,I.ok.exf,I.ok.bs,I.ok.bsz,I.ok.noex,I.ok.exfs,I.ok.funs,I.ok.frf⟩,I.os,I.bare,I.base,I.loc,I.cell,I.free,I.freeC,
  fun p hp=>I.pin p (by have:p∈(X.pn++pins)++[]:=hp;rwa [List.append_nil] at this),I.hok,I.len⟩
theorem aGz (I:Inv (tX X pins D' hd) pins' σ H s):Inv X pins σ H s:=
 ⟨⟨I.ok.mod,I.ok.kind,I.ok.glob,I.ok.blt,I.ok.above,I.ok.inj,I.ok.has,I.ok.cab,I.ok.hd,I.ok.frames,I.ok.stk,I.ok.exf,I.ok.bs,I.ok.bsz,I.ok.noex,I.ok.exfs,I.ok.funs,I.ok.frf⟩,I.os,I.bare,I.base,I.loc,I.cell,I.free,I.freeC,
  fun p hp=>I.pin p (List.mem_append_left _ hp),I.hok,I.len⟩
structure Fram (X:Cx):Prop where
 ex:X.ex=[]
 stk:X.stack=X.env::X.outer
 fr:X.env.frame=some X.env.locals
theorem wY {E₀:XK} {x:Str} {c:Nat} {np cpos pos kp:Pos} {msg:Str} {j:Nat} (T:DefX X E₀) (hc:X.calm=true) (hg:L2.Gl X x) (hm:X.mg x=some (.ref (ad.cls c))) (hd:(x==("__debug__":Str))=false) (hi:excIn X.K (ad.cls c) [.type "ValueError", .type "Exception", .type "BaseException", .type "object"] "ValueError.__new__"=true):
  MS X ad (fun E=> ∀ σ c H,E σ c H->E₀ (.ref (ad.cls c)) none H) (.Raise (some (.Call (.Name x np) [.Constant (.str msg) j kp] [] cpos)) none pos) (iY c):=by
 intro pins s σ H D' I ⟨G₀,G,ρ,E,S,hx',hr⟩
 exact oX T hc hg hm hd hi I (hx'.2 σ c H (hr σ G H S))
end
structure ExcCls (K:Frag) (C:Addr):Prop where
 is:(clsIn K C).isSome=true
 ob:mroIn K C (.type "object")=some true
 be:mroIn K C (.type "BaseException")=some true
 ca:findIn K (.ref C) "__class__"=some (some (.builtin "object.__class__"))
 ga:findIn K (.ref C) "__getattribute__"=some (some (.builtin "BaseException.__getattribute__"))
 gn:findIn K (.ref C) "__getattr__"=some none
theorem wZ {K:Frag} {x C:Addr} (T:ExcCls K C):KitX K (.ref x) (.ref C) (fun h=>jL h x C) where
 ty:=fun _ _ _ I=>I.ty
 it:=fun _ _ Z _=>by
  obtain⟨cdD,hcD⟩:=Option.isSome_iff_exists.mp T.is
  unfold clsIn at hcD
  split at hcD
  ·rename_i c' d' cd' sl' ho
   intro A' Q' E' s' k q
   unfold isType loadHead
   exact ae (wpAny_loadPart (k _ _ (Z _ _ ho)) (af q))
  ·cases hcD
 ne:=fun h tp dd its n sl Z htp=>by
  obtain⟨cdD,hcD⟩:=Option.isSome_iff_exists.mp T.is
  refine Bool.eq_false_iff.mpr fun q=> ?_
  have e:C=tp:=Value.ref.inj (beq_iff_eq.mp q)
  subst e
  unfold clsIn at hcD
  split at hcD
  ·rename_i c' d' cd' sl' ho
   have z:=(Z _ _ ho).symm.trans htp
   cases z
  ·cases hcD
 ca:=fun Z I k=>sY Z I T.ob T.be T.ca T.ga T.gn k
noncomputable def tyD (ad:Ad):D->Option Value
 | .non=>some (.type "NoneType")
 | .bl _=>some (.type "bool")
 | .int _=>some (.type "int")
 | .str _=>some (.type "str")
 | .tup _=>some (.type "tuple")
 | .lst _=>some (.type "list")
 | .exc c=>some (.ref (ad.cls c))
 | .fn _=>none
def aKj (X:Cx) (ad:Ad) (cv:Value) (p:D->Option Bool):Prop:= ∀ d b,p d=some b-> ∃ t,tyD ad d=some t/\kitOne X.K t cv=some b
section
variable {X:Cx} {ad:Ad} {pins:List (Addr×Obj)} {s:Shared} {σ:St} {H G:Hp} {ρ:Rho} {E:Nat->Hp->Prop} {pos p tp:Pos} {a:Expr} {f:F}
theorem aCc {A:Around} {Q:Value->Shared->Prop} {Ex:Value->Shared->Prop} {d:D} {v:V} {u t cv:Value} {b:Bool} (hx: ∀ c,ExcCls X.K (ad.cls c)) (I:Inv X pins σ H s) (hG:Same G H) (q:Rep X.K ad G d v) (r:aP v u) (ht:tyD ad d=some t) (e:kitOne X.K t cv=some b)
  (h: ∀ tk,Q (.bool b) { s with toks:=tk }):wpAny (model X.prog X.w) A (call (.builtin "isinstance") [u,cv]) Q Ex s:=by
 cases d with
 | non=>unfold Rep at q;subst q;cases (show u=Value.none from r);cases ht;exact kia_one kitx_none I.kIn True.intro e (by intro z;cases z) h
 | bl k=>unfold Rep at q;subst q;cases (show u=Value.bool k from r);cases ht;exact kia_one kitx_bool I.kIn True.intro e (by intro z;cases z) h
 | int k=>unfold Rep at q;subst q;obtain⟨t',rfl⟩:=r;cases ht;exact kia_one kitx_int I.kIn True.intro e (by intro z;cases z) h
 | str k=>unfold Rep at q;subst q;obtain⟨t',rfl⟩:=r;cases ht;exact kia_one kitx_str I.kIn True.intro e (by intro z;cases z) h
 | tup ds=>
  unfold Rep at q
  obtain⟨p,vs,rfl,hp,_⟩:=q
  cases (show u=Value.ref p from r)
  cases ht
  obtain⟨its,_,⟨o,h1,h2,_⟩,_⟩:=I.tuple (hG.seqT hp)
  exact kia_one kitx_tuple I.kIn ⟨o,h1,h2⟩ e (by intro z;cases z) h
 | lst ds=>
  unfold Rep at q
  obtain⟨p,vs,rfl,hp,_⟩:=q
  cases (show u=Value.ref p from r)
  cases ht
  obtain⟨its,_,⟨o,n,h1,h2,_⟩,_⟩:=I.list (hG.seq hp)
  exact kia_one kitx_list I.kIn ⟨o,h1,h2⟩ e (by intro z;cases z) h
 | exc c=>
  unfold Rep at q
  obtain⟨p,rfl,hp⟩:=q
  cases (show u=Value.ref p from r)
  cases ht
  obtain⟨ex,_,_⟩:=(show ObjOk X.prog X.w H s.heap p (yZ (ad.cls c) p) from I.hok p _ (hG _ _ hp))
  exact kia_one (wZ (hx c)) I.kIn ex e (by intro z;cases z) h
 | fn k=>cases ht
inductive ClNm (X:Cx) (t:Str) (cv:Value):Prop
 | blt (T:String):cv= .type T->L2.Gl X t->X.mg t=none->bootBuiltins t=some (.type T)->t≠"__name__"->(t==("__debug__":Str))=false->ClNm X t cv
 | own (C:Addr):cv= .ref C->L2.Gl X t->X.mg t=some (.ref C)->(t==("__debug__":Str))=false->ClNm X t cv
theorem ClNm.ev {t:Str} {cv:Value} {Ex:Value->Shared->Prop} {Q:Value->Shared->Prop} (c:ClNm X t cv) (I:Inv X pins σ H s) (h:Q cv s):wpAny (model X.prog X.w) X.A (eval (.Name t tp) X.env) Q Ex s:=by
 cases c with
 | blt T e g m b n d=>subst e;exact gN I g m b h n d
 | own C e g m d=>subst e;exact eM I g m h d
theorem tF {t:Str} {cv:Value} {P:D->Option Bool} (hx: ∀ c,ExcCls X.K (ad.cls c)) (hg:L2.Gl X "isinstance") (hm:X.mg "isinstance"=none) (c:ClNm X t cv) (k:aKj X ad cv P) (ha:ME X ad a f)
  (he:starEach [a, .Name t tp] X.env=(false,eval a X.env)::starEach [.Name t tp] X.env):ME X ad (.Call (.Name "isinstance" p) [a, .Name t tp] [] pos) (rIs P f):=by
 intro pins s σ H Q I ⟨G,ρ,E,hG,hS,hx',hr⟩
 refine wpAny_Call_Name_kw (gN (u:= .builtin "isinstance") I hg hm (by decide+kernel) ?_ (by decide) (by decide))
 refine PyProof.Rows.callWith_builtin1 ?_ he rfl
 rw [he]
 refine Calls.spliced_cons (L2.thn (ha.thn I hG hS hx' hr) fun u s1 hz_=> ?_)
 obtain⟨v,d,G1,H1,I1,r1,st,q,k1⟩:=hz_
 refine Calls.spliced_cons (c.ev I1 (Calls.spliced_nil ?_))
 have k1':RK X.K ad G1 H1 (match P d with | some b=> .ok (.bl b) | none=> .bad) Q E:=k1
 cases e:P d with
 | none=>rw [e] at k1';exact k1'.elim
 | some b=>
  rw [e] at k1'
  obtain⟨ty,e1,e2⟩:=k d b e
  exact aCc hx I1 st.gh q r1 e1 e2 fun tk=>⟨.bl b,H1,I1.tok tk,rfl,k1'.ok_now st.gh aZ⟩
end
structure RkC (K:Frag) (A:Addr):Prop where
 cl:Cls K A
 n1:eC K A "held"
 n2:eC K A "done"
 n3:eC K A "undone"
structure StepR (foot:List Addr) (G H G' H':Hp):Prop where
 sg:Same G G'
 gh:Same G' H'
 sh: ∀ b o,b∉foot->H b=some o->H' b=some o
 nw: ∀ b,G b=none->G' b≠none->H b=none
 th: ∀ b,H b≠none->H' b≠none
def RMK (K:Frag) (ad:Ad) (A:Nat) (G H:Hp) (p dx d l1 l2:Addr) (m:RM) (Q:VK) (E:Nat->Hp->Prop):Prop:=match m with
 | .pure x=>RK K ad G H x Q E
 | .chg x r'=> ∀ v G' H' l2',StepR [p,dx,d,l1,l2] G H G' H'->RackIn K ad A G' H' p r' dx d l1 l2'->(l2'=l2\/H l2'=none)->Rep K ad G' x v->Q v H'
noncomputable def spM (K:Frag) (ad:Ad) (A n:Nat) (m:FM):Sp:=fun vs H Q E=> ∃ G p r dx d l1 l2 ds ws,vs=V.ref p::ws/\Same G H/\RackIn K ad A G H p r dx d l1 l2/\aE K ad G ds ws/\ds.length=n/\RMK K ad A G H p dx d l1 l2 (m r ds) Q (fun c H'=>E (.ref (ad.cls c)) none H')
structure MetOk (X:Cx) (ad:Ad) (A:Addr) (m:Str) (n:Nat) (M:FM):Prop where
 no:m≠"held"/\m≠"done"/\m≠"undone"
 ok: ∃ f k fd ps,Meth X.K A m f/\FnOk X.prog X.w X.K X.mg X.base (CXe X.prog X.w) k f fd ps (spM X.K ad A n M)/\Room k X.A/\dB X.K fd ps []
noncomputable def cS:Py->Str
 | .len=>"len" | .range=>"range" | .enum=>"enumerate" | .zip=>"zip" | .isin=>"isinstance" | .int=>"int" | .bool=>"bool" | .str=>"str" | .tuple=>"tuple" | .list=>"list"
 | .sum=>"sum" | .all=>"all" | .any=>"any" | .sorted=>"sorted" | .min=>"min" | .max=>"max" | .abs=>"abs" | .set=>"set"
noncomputable def aKk (X:Cx) (ad:Ad) (x:Str):SK.Gl->Prop
 | .fn k n F=> ∃ r f,FnGood X ad r x n F f/\Room r X.A/\f=ad.fnA k
 | .exc c=>X.mg x=some (.ref (ad.cls c))/\c<ad.nb
 | .verr=>x="ValueError"/\X.mg x=none
 | .val d=> ∃ u v,X.mg x=some u/\aP v u/\ ∀ G,Rep X.K ad G d v
 | .py p=>x=cS p/\X.mg x=none
 | .cls A ms=>X.mg x=some (.ref A)/\RkC X.K A/\ ∀ m n M,ms.lookup m=some (n,M)->MetOk X ad A m n M
structure CtxOk (X:Cx) (ad:Ad) (C:SK.Ctx):Prop where
 N:X.N=C.N
 nd:X.N.Nodup
 vis: ∀ x i,loc C x=some i->X.N[i]? =some x/\Vis X.env.scope x/\(x==("__debug__":Str))=false/\(x==("__classdict__":Str))=false
 gk: ∀ x,C.sc.names.lookup x=some .globalImplicit->L2.Gl X x
 gt: ∀ x g,C.tab.lookup x=some g->(x==("__debug__":Str))=false/\aKk X ad x g
 cap: ∀ x i,dD C x=some i->X.env.kindOf x=some .cell\/X.env.kindOf x=some .free
 calm:X.calm=true
 un:X.A.units+62<cLine
 hd:X.A.handled=none
 exc: ∀ c,ExcCls X.K (ad.cls c)
 kin: ∀ c e,c<ad.nb->kitOne X.K (.ref (ad.cls e)) (.ref (ad.cls c))=some (hit c e)
 kve: ∀ e,kitOne X.K (.ref (ad.cls e)) (.type "ValueError")=some true
 fnv: ∀ j n F,C.fns[j]? =some (n,F)-> ∃ r,FnAt X ad r n F (ad.fnA j)/\Room r X.A
section
variable {X:Cx} {ad:Ad} {C:SK.Ctx}
theorem aCd {x:Str} {g:SK.Gl} (h:glo C x=some g):C.sc.names.lookup x=some .globalImplicit/\C.tab.lookup x=some g:=by
 unfold glo at h
 split at h
 ·rename_i e;exact⟨e,h⟩
 ·cases h
theorem CtxOk.gl (O:CtxOk X ad C) {x:Str} {g:SK.Gl} (h:glo C x=some g):L2.Gl X x/\(x==("__debug__":Str))=false/\aKk X ad x g:=
 let ⟨a,b⟩:=aCd h
 ⟨O.gk x a,(O.gt x g b).1,(O.gt x g b).2⟩
theorem zL {t:Str} {g:SK.Gl} {P:D->Option Bool} (O:CtxOk X ad C) (h:glo C t=some g) (e:isP g=some P): ∃ cv,ClNm X t cv/\aKj X ad cv P:=by
 obtain⟨hg,hd,hk⟩:=O.gl h
 cases g with
 | fn _ _ _=>cases e
 | cls _ _=>cases e
 | val _=>cases e
 | exc c=>
  cases e
  obtain⟨hm,hc⟩:=hk
  refine⟨.ref (ad.cls c), .own _ rfl hg hm hd,fun d b hb=> ?_⟩
  cases d<;>try (cases hb;done)
  rename_i k
  cases hb
  exact⟨_,rfl,O.kin c k hc⟩
 | verr=>
  cases e
  obtain⟨hx,hm⟩:=hk
  subst hx
  refine⟨.type "ValueError", .blt "ValueError" rfl hg hm (by decide+kernel) (by decide) hd,fun d b hb=> ?_⟩
  cases d<;>try (cases hb;done)
  rename_i k
  cases hb
  refine⟨_,rfl, ?_⟩
  rw [O.kve k]
  congr 1
  unfold hit
  simp
 | py p=>
  obtain⟨hx,hm⟩:=hk
  cases p<;>try (cases e;done)
  all_goals
   cases e
   subst hx
  ·refine⟨.type "int", .blt "int" rfl hg hm (by decide+kernel) (by decide) hd,fun d b hb=> ?_⟩
   cases d<;>first | (cases hb;done) | (cases hb;exact⟨_,rfl,by rfl⟩)
  ·refine⟨.type "bool", .blt "bool" rfl hg hm (by decide+kernel) (by decide) hd,fun d b hb=> ?_⟩
   cases d<;>first | (cases hb;done) | (cases hb;exact⟨_,rfl,by rfl⟩)
  ·refine⟨.type "str", .blt "str" rfl hg hm (by decide+kernel) (by decide) hd,fun d b hb=> ?_⟩
   cases d<;>first | (cases hb;done) | (cases hb;exact⟨_,rfl,by rfl⟩)
  ·refine⟨.type "tuple", .blt "tuple" rfl hg hm (by decide+kernel) (by decide) hd,fun d b hb=> ?_⟩
   cases d<;>first | (cases hb;done) | (cases hb;exact⟨_,rfl,by rfl⟩)
  ·refine⟨.type "list", .blt "list" rfl hg hm (by decide+kernel) (by decide) hd,fun d b hb=> ?_⟩
   cases d<;>first | (cases hb;done) | (cases hb;exact⟨_,rfl,by rfl⟩)
theorem bX {x:Str} {k:NameKind} {l:List (Str×NameKind)} (h:(l.lookup x==some k)=true):l.lookup x=some k:=by simpa using h
theorem fL {sc:Scope} {xs:List Str} (h:gZ sc xs=true):sc.kind= .function/\(lK sc=[]\/(lK sc=xs/\xs.length=1))/\(∀ x∈xs,sc.names.lookup x=some (if(lK sc).isEmpty then .local else .cell))/\(∀ y∈sc.names,y.2= .local->sc.names.lookup y.1=some .local)/\
  (xs++aN sc).Nodup/\(∀ x∈xs++aN sc,(x==("__debug__":Str))=false/\(x==("__classdict__":Str))=false)/\ ∀ x∈aN sc,sc.names.lookup x=some .free:=by
 unfold gZ at h
 simp only [aw] at h
 obtain⟨⟨⟨⟨⟨⟨h1,h2⟩,h3⟩,h4⟩,h5⟩,h6⟩,h7⟩:=h
 refine⟨by simpa using h1,by simpa using h2,fun x hx=> ?_,fun y hy z=> ?_,of_decide_eq_true h5,fun x hx=> ?_,fun x hx=> ?_⟩
 ·exact bX (zAd h3 x hx)
 ·have:=zAd h4 y hy
  rw [z] at this
  simpa using this
 ·have:=zAd h6 x hx
  simpa using this
 ·exact bX (zAd h7 x hx)
theorem fM {x:Str} {N:List Str} {i:Nat} (h:idx x N=some i):x∈N:=List.mem_of_getElem? (dC h)
theorem fN {x:Str} {i:Nat} (h:loc C x=some i):idx x C.N=some i/\(C.sc.names.lookup x=some .local\/C.sc.names.lookup x=some .cell\/C.sc.names.lookup x=some .free):=by
 unfold loc at h
 split at h
 ·rename_i e;exact⟨h, .inl e⟩
 ·rename_i e;exact⟨h, .inr (.inl e)⟩
 ·rename_i e;exact⟨h, .inr (.inr e)⟩
 ·cases h
theorem cD {x:Str} {i:Nat} (h:dD C x=some i):idx x C.N=some i/\(C.sc.names.lookup x=some .cell\/C.sc.names.lookup x=some .free):=by
 unfold dD at h
 split at h
 ·rename_i e;exact⟨h, .inl e⟩
 ·rename_i e;exact⟨h, .inr e⟩
 ·cases h
theorem jT {α β:Type} {f:α->Option β}: ∀ {l:List α} {r:List β},cV f l=some r-> ∀ a∈l, ∃ b,f a=some b
 | [],_,_,a,ha=>by cases ha
 | x::l,r,h,a,ha=>by
  unfold cV at h
  cases e:f x with
  | none=>rw [e] at h;cases h
  | some y=>
   rw [e] at h
   obtain⟨r',h1,_⟩:=zMd h
   rcases av.mp ha with rfl | ha
   ·exact⟨y,e⟩
   ·exact jT h1 a ha
theorem bY {x:Str} {k:NameKind} {l:List (Str×NameKind)} (h:l.lookup x=some k):(x,k)∈l:=PySem.mem_of_lookup h
theorem jU {x:Str} {sc:Scope} (h:(x,NameKind.free)∈sc.names):x∈aN sc:=by
 unfold aN
 exact au.mpr ⟨(x, .free),List.mem_filter.mpr ⟨h,by simp⟩,rfl⟩
theorem tG {sc:Scope} {xs:List Str} {cs:List Nat} (O:CtxOk X ad C) (h:gZ sc xs=true) (hc:cV (fun x=>dD C x) (aN sc)=some cs):CompSc X C sc xs cs:=by
 obtain⟨h1,h2,h3,h4,h5,h6,h7⟩:=fL h
 have hC:Cel sc:=by
  rcases h2 with z | ⟨z,l⟩
  ·exact .inl z
  ·obtain⟨x,rfl⟩:=List.length_eq_one_iff.mp l
   have:=h3 x (.head _)
   rw [z] at this
   exact .inr ⟨x,z,this⟩
 refine⟨h1,hC,h4,fun x hx=> ?_,fun x hx=>h7 x (jU hx),O.N,hc⟩
 obtain⟨i,e⟩:=jT hc x (jU hx)
 exact O.cap x i e
theorem aCe {tg:Expr} {xs:List Str} {k:Nat} {x:Str} (hN:X.N.Nodup) (e:bH tg=some (xs,k)) (hx:xs=[x]) (h1:X.N[0]? =some x) (h2:X.env.scope.names.lookup x=some .cell) (h3:X.fn x=true):PG X tg (gTg X.K k):=by
 subst hx
 cases tg<;>try (cases e)
 ·exact fF hN h1 (.inr h2) (.inl h3)
 ·rename_i es j px
  unfold bH at e
  obtain⟨ys,e1,e2⟩:=zBd e
  by_cases hl:2<=ys.length
  ·rw [if_pos hl] at e2
   cases e2
   exact absurd hl (by simp)
  ·rw [if_neg hl] at e2
   cases e2
theorem aG0 {sc:Scope} {xs:List Str} {cs:List Nat} {s3:Shared} {H3:Hp} {fp:List Addr} {pins:List (Addr×Obj)} (O:CtxOk X ad C) (h:gZ sc xs=true) (hc:cV (fun x=>dD C x) (aN sc)=some cs):
  CtxOk (cX X (xs++aN sc) sc s3 H3 fp pins) ad { C with sc:=sc,N:=xs++aN sc }:=by
 obtain⟨h1,h2,h3,h4,h5,h6,h7⟩:=fL h
 have rl: ∀ x,(relabel sc X.env).names.lookup x=(sc.names.lookup x).map (fun k=>if(k==NameKind.free&&X.env.scope.kind== .function&&X.env.kindOf x==some .cell) then NameKind.cell else k):=fun x=>bG
 have fr: ∀ x,sc.names.lookup x=some .free->(relabel sc X.env).names.lookup x=some .cell\/(relabel sc X.env).names.lookup x=some .free:=fun x e=>by
  rw [rl x,e]
  simp only [Option.map]
  split
  ·exact .inl rfl
  ·exact .inr rfl
 have nc: ∀ x,sc.names.lookup x=some .cell->(relabel sc X.env).names.lookup x=some .cell:=fun x e=>by rw [rl x,e];rfl
 refine⟨rfl,h5,fun x i e=> ?_,fun x e=> ?_,fun x g e=> ?_,fun x i e=> ?_,O.calm,O.un,O.hd,O.exc,O.kin,O.kve,fun j n F e=>let ⟨r,T,hr⟩:=O.fnv j n F e;⟨r,⟨T.kp,T.ok⟩,hr⟩⟩
 ·obtain⟨e1,e2⟩:=fN e
  have hm:=fM e1
  refine⟨dC e1, ?_,(h6 x hm).1,(h6 x hm).2⟩
  rcases e2 with e2 | e2 | e2
  ·refine .inl ?_
   show(relabel sc X.env).names.lookup x=some .local
   rw [rl x]
   have:sc.names.lookup x=some .local:=e2
   rw [this]
   rfl
  ·exact .inr (.inl (nc x e2))
  ·rcases fr x e2 with z | z
   ·exact .inr (.inl z)
   ·exact .inr (.inr z)
 ·show(relabel sc X.env).names.lookup x=some .globalImplicit
  rw [rl x]
  have:sc.names.lookup x=some .globalImplicit:=e
  rw [this]
  rfl
 ·obtain⟨e1,e2⟩:=O.gt x g e
  refine⟨e1, ?_⟩
  cases g with
  | fn k n F=>
   obtain⟨r,f,T,hr,hf⟩:=e2
   exact⟨r,f,⟨T.mg,T.kp,T.ok⟩,hr,hf⟩
  | exc c=>exact e2
  | verr=>exact e2
  | val d=>exact e2
  | py p=>exact e2
  | cls A ms=>exact⟨e2.1,e2.2.1,fun m n M hm=>let z:=e2.2.2 m n M hm;⟨z.no,z.ok⟩⟩
 ·obtain⟨e1,e2⟩:=cD e
  rcases e2 with e2 | e2
  ·exact .inl (nc x e2)
  ·exact fr x e2
end
section
variable {prog:Program} {w:World} {A:Around} {Ex:Value->Shared->Prop} {s:Shared}
theorem qF {it t:Addr} {i:Nat} {items:Array Value} {x:Value} {Q:Value->Shared->Prop} (hit:s.heap.IsTupleIter it t i) (ht:s.heap.IsTuple t items) (hx:items[i]? =some x)
  (hQ: ∀ h',h'.IsTupleIter it t (i+1)->Heap.SameBut it s.heap h'->Q x { s with heap:=h' }):wpAny (model prog w) A (Builtin.SmallTypes.nextOf (.ref it)) Q Ex s:=by
 obtain⟨o,o1,o2,o3⟩:=id hit
 obtain⟨u,u1,_,nu,u2⟩:=ht
 unfold Builtin.SmallTypes.nextOf
 refine ae (wpAny_callSpecial?_slot (name:=Str.ofString "__next__") hit.typeIs F.slot_tuple_iterator_next (wpAny_call_entry F.slot_tuple_iterator_next hit.typeIs F.entry_tuple_iterator_next ?_ (F.args_tuple_iterator_next_1 _)))
 show wpAny _ _ (field (.ref it) 0 >>= _) _ _ s
 refine ae (wpAny_field o1 o3 (x:= .ref t) rfl ?_)
 show wpAny _ _ (if(Value.ref t==Value.none)=true then _ else _) _ _ s;rw [if_neg (show ¬ ((Value.ref t==Value.none)=true) from bg)]
 show wpAny _ _ (field (.ref it) 1 >>= _) _ _ s
 refine ae (wpAny_field o1 o3 (x:= .int i 0) rfl ?_)
 show wpAny _ _ (seqItems? (.ref t) >>= _) _ _ s
 refine ae (wpAny_seqItems u1 u2 ?_)
 simp only [Int.toNat_natCast,hx]
 refine ae (wpAny_setField o1 o3 (by simp) (af ⟨x,rfl,af (hQ _ ?_ (Heap.SameBut.update ..))⟩))
 exact⟨_,Heap.get?_update_self _ o1 (Obj.isFreed_of_fields (Obj.data_mapFields o3 _)),(Obj.cls_mapFields ..).trans o2,by rw [Obj.data_mapFields o3];simp [rawInt]⟩
theorem tJ {it t:Addr} {i:Nat} {items:Array Value} {Q:Value->Shared->Prop} (hh:A.handled=none) (hit:s.heap.IsTupleIter it t i) (ht:s.heap.IsTuple t items) (hx:items[i]? =none)
  (hE: ∀ h' e,Heap.ExtBut it s.heap h'->(∃ o,h'.get? e=some o/\o.cls= .type "StopIteration")->Ex (.ref e) { s with heap:=h' }):wpAny (model prog w) A (Builtin.SmallTypes.nextOf (.ref it)) Q Ex s:=by
 obtain⟨o,o1,o2,o3⟩:=id hit
 obtain⟨u,u1,_,nu,u2⟩:=ht
 unfold Builtin.SmallTypes.nextOf
 refine ae (wpAny_callSpecial?_slot (name:=Str.ofString "__next__") hit.typeIs F.slot_tuple_iterator_next (wpAny_call_entry F.slot_tuple_iterator_next hit.typeIs F.entry_tuple_iterator_next ?_ (F.args_tuple_iterator_next_1 _)))
 show wpAny _ _ (field (.ref it) 0 >>= _) _ _ s
 refine ae (wpAny_field o1 o3 (x:= .ref t) rfl ?_)
 show wpAny _ _ (if(Value.ref t==Value.none)=true then _ else _) _ _ s;rw [if_neg (show ¬ ((Value.ref t==Value.none)=true) from bg)]
 show wpAny _ _ (field (.ref it) 1 >>= _) _ _ s
 refine ae (wpAny_field o1 o3 (x:= .int i 0) rfl ?_)
 show wpAny _ _ (seqItems? (.ref t) >>= _) _ _ s
 refine ae (wpAny_seqItems u1 u2 ?_)
 simp only [Int.toNat_natCast,hx]
 refine ae (wpAny_rule (ae (wpAny_setField o1 o3 (by simp) ?_)))
 show wpAny _ _ (newExc (.type "StopIteration") [] >>= _) _ _ _
 refine ae ?_;simp only [newExc,newTuple]
 refine ae (wpAny_newObj_type ?_ (by size_fits));refine ae (m:=firstArgMember _ _) (wpAny_of_eq (a:=Value.none) (by first | rfl | (simp only [firstArgMember];rfl)) ?_)
 refine wpAny_newObj_type ?_ (by size_fits);simp only [raiseNew]
 refine ae (wpAny_handled ?_)
 first | rw [show A.in1.handled=none from hh] | rw [hh]
 refine ae (af (wpAny_throw ?_))
 refine hE _ _ (fun b ob ne e=> ?_) ⟨_,ah _ rfl,rfl⟩
 exact ag _ (ag _ ((Heap.get?_update_other _ _ (Ne.symm ne)).trans e))
end
section
variable {prog:Program} {w:World} {A:Around} {Ex:Value->Shared->Prop} {s:Shared}
end
theorem tK {n l m:Nat} (a:l<n) (b:m<n):ZipApart (n+4) (n+2) (n+3) n (n+1) l m:=by
 constructor<;>(intro h;have h2:(_:Nat)=_:=h;revert h2;omega)
theorem hX {X:Cx} {pins:List (Addr×Obj)} {σ:L2.St} {H:Hp} {s:Shared} {h':Heap} {t':Nat} {fp:List Addr} (I:Inv X pins σ H s) (k: ∀ b o,b∉fp->s.heap.get? b=some o->h'.get? b=some o) (hf: ∀ b∈fp,mO X pins H b):Inv X pins σ H { s with heap:=h',toks:=t' }:=by
 have nit: ∀ b u,H b=some u->b∉fp:=fun b u e z=>by rw [(hf b z).1] at e;cases e
 refine I.step (g':=s.gens) (d':=s.drawn) (ch:=fp) (fun b hb=> ?_) (fun b o _ _ hc e _=>k b o hc e) (fun b o _ _ hc e _=>⟨o.slots,k b o hc e⟩) (fun _ _ _ _ n=>n)
  (fun b o hc e=>⟨o,k b o hc e⟩) (fun _ _ e=>e) (fun _ _ _ e=>e) (fun b ps e=>⟨#[],by rw [e];simp⟩) (fun m hm=> ?_) (fun b u e=> ?_) I.bare
 ·obtain⟨_,f1,_,f3,f4,f5⟩:=hf b hb
  exact⟨f3,f1,f4,f5⟩
 ·obtain⟨o,es,ep,ho,r⟩:=hm
  exact⟨o,es,ep,k _ o (fun z=>(hf _ z).2.1 rfl) ho,r⟩
 ·refine(I.hok b u e).stay (fun c v hc q=>k c v ?_ q) (fun _ q=>q) fun _ _ q=>q
  rcases hc with z | z
  ·rw [z];exact nit b u e
  ·exact nit c _ z
section
variable {prog:Program} {w:World} {A:Around} {Ex:Value->Shared->Prop} {s:Shared}
end
section
variable {prog:Program} {w:World} {A:Around} {Ex:Value->Shared->Prop} {s:Shared}
end
def SqA (t:Bool) (K:PySem.W.Frag) (H:Hp) (a:Addr) (xs:List V):Prop:=match t with
 | true=>SqT K H a xs
 | false=>SqL K H a xs
def ItA (t:Bool) (h:Heap) (it l:Addr) (i:Nat):Prop:=match t with
 | true=>h.IsTupleIter it l i
 | false=>h.IsListIter it l i
def SeA (t:Bool) (h:Heap) (l:Addr) (xs:Array Value):Prop:=match t with
 | true=>h.IsTuple l xs
 | false=>h.IsList l xs
section
variable {X:Cx} {pins:List (Addr×Obj)} {σ:L2.St} {H:Hp} {s:Shared} {t:Bool}
theorem fO {a:Addr} {xs:List V} (I:Inv X pins σ H s) (h:SqA t X.K H a xs): ∃ its:List Value,aS xs its/\SeA t s.heap a its.toArray/\xs.length<=sizeLine:=by
 cases t with
 | true=>
  obtain⟨its,r,p,z⟩:=I.tuple h
  exact⟨its,r,p,z⟩
 | false=>
  obtain⟨its,r,p,z⟩:=I.list h
  exact⟨its,r,p.isList,z⟩
theorem hZ {a:Addr} {xs ys:List V} (I:Inv X pins σ H s) (h:SqA t X.K H a xs) (h':SqA t X.K H a ys):xs=ys:=by
 cases t with
 | true=>exact I.tuple_inj h h'
 | false=>exact I.list_inj h h'
theorem aM {K:PySem.W.Frag} {H H':Hp} {a:Addr} {xs:List V} (e:Same H H') (h:SqA t K H a xs):SqA t K H' a xs:=by
 cases t with
 | true=>exact e.seqT h
 | false=>exact e.seq h
theorem cY {h h':Heap} {it l:Addr} {i:Nat} (q:ItA t h it l i) (k: ∀ o,h.get? it=some o->h'.get? it=some o):ItA t h' it l i:=by
 cases t with
 | true=>obtain⟨o,e,r⟩:=q;exact⟨o,k o e,r⟩
 | false=>obtain⟨o,e,r⟩:=q;exact⟨o,k o e,r⟩
theorem fP {prog:Program} {w:World} {A:Around} {Ex:Value->Shared->Prop} {it l:Addr} {i:Nat} {xs:Array Value} {x:Value} {Q:Value->Shared->Prop} (q:ItA t s.heap it l i) (hl:SeA t s.heap l xs) (hx:xs[i]? =some x)
  (hQ: ∀ h',ItA t h' it l (i+1)->Heap.SameBut it s.heap h'->Q x { s with heap:=h' }):wpAny (model prog w) A (Builtin.SmallTypes.nextOf (.ref it)) Q Ex s:=by
 cases t with
 | true=>exact qF q hl hx hQ
 | false=>exact wpAny_nextOf_list_item q hl hx hQ
theorem lV {prog:Program} {w:World} {A:Around} {Ex:Value->Shared->Prop} {it l:Addr} {i:Nat} {xs:Array Value} {Q:Value->Shared->Prop} (hh:A.handled=none) (q:ItA t s.heap it l i) (hl:SeA t s.heap l xs) (hx:xs[i]? =none)
  (hE: ∀ h' e,Heap.ExtBut it s.heap h'->(∃ o,h'.get? e=some o/\o.cls= .type "StopIteration")->Ex (.ref e) { s with heap:=h' }):wpAny (model prog w) A (Builtin.SmallTypes.nextOf (.ref it)) Q Ex s:=by
 cases t with
 | true=>exact tJ hh q hl hx hE
 | false=>exact wpAny_nextOf_list_end hh q hl hx hE
end
theorem tN {t:Bool} {h h':Heap} {l:Addr} {it:Array Value} (q:SeA t h l it) (k: ∀ o,h.get? l=some o->h'.get? l=some o):SeA t h' l it:=by
 cases t with
 | true=>obtain⟨o,e1,e2⟩:=q;exact⟨o,k o e1,e2⟩
 | false=>obtain⟨o,e1,e2⟩:=q;exact⟨o,k o e1,e2⟩
theorem jV {t:Bool} {h:Heap} {it l:Addr} {k:Nat} (x:ItA t h it l k): ∃ o,h.get? it=some o/\o.data= .fields #[.ref l, .int k 0]:=by
 cases t with
 | true=>obtain⟨o,a,_,c⟩:=x;exact⟨o,a,c⟩
 | false=>obtain⟨o,a,_,c⟩:=x;exact⟨o,a,c⟩
section
variable {prog:Program} {w:World} {A:Around} {Ex:Value->Shared->Prop} {s:Shared} {t t2:Bool}
theorem tP {z TI TO i1 i2 l1 l2:Addr} {k1 k2:Nat} {xs ys:Array Value} {x y a b:Value} {Q:Option Value->Shared->Prop} (D:ZipApart z TI TO i1 i2 l1 l2) (hz:IsZip s.heap z TI TO .none) (hTI:IsPair s.heap TI (.ref i1) (.ref i2)) (hTO:IsPair s.heap TO a b)
  (h1:ItA t s.heap i1 l1 k1) (h2:ItA t2 s.heap i2 l2 k2) (hl1:SeA t s.heap l1 xs) (hl2:SeA t2 s.heap l2 ys) (hx:xs[k1]? =some x) (hy:ys[k2]? =some y)
  (hQ: ∀ h',IsZip h' z TI TO (rawInt s.heap.objs.size)->IsPair h' TO x y->ItA t h' i1 l1 (k1+1)->ItA t2 h' i2 l2 (k2+1)->IsPair h' s.heap.objs.size x y->h'.objs.size=s.heap.objs.size+1->
   (∀ c o,c≠z->c≠TO->c≠i1->c≠i2->s.heap.get? c=some o->h'.get? c=some o)->Q (some (.ref s.heap.objs.size)) { s with heap:=h' }):wpAny (model prog w) A (pyNext (.ref z)) Q Ex s:=by
 have hT:s.TypeIs (.ref z) "zip":=⟨_,hz,rfl⟩
 have isT: ∀ {t:Bool} {h h':Heap} {it l:Addr} {k:Nat} {c:Addr},ItA t h it l k->Heap.SameBut c h h'->it≠c->ItA t h' it l k:=fun q sb ne=>cY q fun o e=>(sb.2 _ ne).trans e
 have isU: ∀ {t:Bool} {h h':Heap} {l:Addr} {it:Array Value} {c:Addr},SeA t h l it->Heap.SameBut c h h'->l≠c->SeA t h' l it:=fun q sb ne=>tN q fun o e=>(sb.2 _ ne).trans e
 unfold pyNext
 refine ae (wpAny_attempt (wpAny_callSpecial?_slot (name:=Str.ofString "__next__") hT F.slot_zip_next (wpAny_call_entry F.slot_zip_next hT F.entry_zip_next ?_ (F.args_zip_next_1 _))))
 show wpAny _ _ (field (.ref z) 2 >>= _) _ _ _
 refine ae (wpAny_field hz rfl (x:= .bool false) rfl ?_)
 show wpAny _ _ (field (.ref z) 3 >>= _) _ _ _
 refine ae (wpAny_field hz rfl (x:= .ref TI) rfl (ae (wpAny_seqItems hTI rfl ?_)))
 show wpAny _ _ (Builtin.SmallTypes.ownedTupleIsFree (.ref z) >>= _) _ _ _
 refine ae ?_;unfold Builtin.SmallTypes.ownedTupleIsFree
 refine ae (wpAny_field hz rfl (x:= .none) rfl (af ?_));simp only [if_true]
 refine ae (wpAny_rule (ae (wpAny_field hz rfl (x:= .ref TO) rfl (ae (wpAny_setField_rec hz (by simp) fun g1 z1 s1=> ?_)))))
 replace z1:IsZip g1 z TI TO .ellipsis:=z1
 refine ae ?_;simp only [List.zipIdx_cons,List.zipIdx_nil,List.forIn_cons,List.forIn_nil]
 refine ae (ae (wpAny_onRaise ?_));show wpAny _ _ (Builtin.SmallTypes.nextOf (.ref i1) >>= _) _ _ _
 refine ae (fP (isT h1 s1 D.i1z) (isU hl1 s1 D.l1z) hx fun g2 p2 s2=>af ?_)
 have o2:IsPair g2 TO a b:=(s2.2 _ D.TOi1).trans ((s1.2 _ D.TOz).trans hTO)
 refine ae (wpAny_seqItems o2 rfl (ae (wpAny_updateSeq_pair o2 fun g3 o3 s3=> ?_)))
 replace o3:IsPair g3 TO x b:=o3
 refine ae (wpAny_letGo (af (ae (ae (wpAny_onRaise ?_)))));show wpAny _ _ (Builtin.SmallTypes.nextOf (.ref i2) >>= _) _ _ _
 refine ae (fP (isT (isT (isT h2 s1 D.i2z) s2 D.i12.symm) s3 D.TOi2.symm) (isU (isU (isU hl2 s1 D.l2z) s2 D.l2i1) s3 D.l2TO) hy fun g4 p4 s4=>af ?_)
 have o4:IsPair g4 TO x b:=(s4.2 _ D.TOi2).trans o3
 refine ae (wpAny_seqItems o4 rfl (ae (wpAny_updateSeq_pair o4 fun g5 o5 s5=> ?_)))
 replace o5:IsPair g5 TO x y:=o5
 refine ae (wpAny_letGo (af (af (ae (wpAny_seqItems o5 rfl (ae (wpAny_newTuple ?_)))))))
 have hsz:g5.objs.size=s.heap.objs.size:=by rw [s5.1,s4.1,s3.1,s2.1,s1.1]
 have z5:IsZip g5 z TI TO .ellipsis:=(s5.2 _ D.TOz.symm).trans ((s4.2 _ D.i2z.symm).trans ((s3.2 _ D.TOz.symm).trans ((s2.2 _ D.i1z.symm).trans z1)))
 have k5: ∀ c o,c≠z->c≠TO->c≠i1->c≠i2->s.heap.get? c=some o->g5.get? c=some o:=fun c o c1 c2 c3 c4 e=>(s5.2 _ c2).trans ((s4.2 _ c4).trans ((s3.2 _ c2).trans ((s2.2 _ c3).trans ((s1.2 _ c1).trans e))))
 have q1:ItA t g5 i1 l1 (k1+1):=isT (isT (isT p2 s3 D.TOi1.symm) s4 D.i12) s5 D.TOi1.symm
 have q2:ItA t2 g5 i2 l2 (k2+1):=isT p4 s5 D.TOi2.symm
 have lz:z<g5.objs.size:=ai z5
 show wpAny _ _ (Builtin.SmallTypes.ownedTupleHandOut (.ref z) (.ref g5.objs.size) >>= _) _ _ _
 refine ae ?_;unfold Builtin.SmallTypes.ownedTupleHandOut
 have z6:IsZip (g5.push { cls:= .type "tuple",data:= .seq #[x,y] }) z TI TO .ellipsis:=ag _ z5
 refine ae (wpAny_setField_rec z6 (by simp) fun g7 z7 s7=> ?_)
 replace z7:IsZip g7 z TI TO (rawInt g5.objs.size):=z7
 refine wpAny_setField_rec z7 (by simp) fun g8 z8 s8=> ?_
 replace z8:IsZip g8 z TI TO (rawInt g5.objs.size):=z8
 have up: ∀ c o,c≠z->g5.get? c=some o->g8.get? c=some o:=fun c o c1 e=>(s8.2 _ c1).trans ((s7.2 _ c1).trans (ag _ e))
 have t8:IsPair g8 g5.objs.size x y:=(s8.2 _ (Nat.ne_of_gt lz)).trans ((s7.2 _ (Nat.ne_of_gt lz)).trans (ah _ rfl))
 have n8:g8.objs.size=g5.objs.size+1:=by rw [s8.1,s7.1,aj]
 rw [hsz] at z8 t8 n8
 refine af ⟨_,rfl,af ?_⟩
 show Q (some (.ref g5.objs.size)) _;rw [hsz]
 refine hQ g8 z8 (up _ _ D.TOz o5) ?_ ?_ t8 n8 fun c o c1 c2 c3 c4 e=>up c o c1 (k5 c o c1 c2 c3 c4 e)
 ·exact cY q1 fun o e=>up _ o D.i1z e
 ·exact cY q2 fun o e=>up _ o D.i2z e
theorem w5 {z TI TO i1 i2 l1 l2:Addr} {k1 k2:Nat} {xs ys:Array Value} {a b:Value} {Q:Option Value->Shared->Prop} (hh:A.handled=none) (D:ZipApart z TI TO i1 i2 l1 l2) (hz:IsZip s.heap z TI TO .none) (hTI:IsPair s.heap TI (.ref i1) (.ref i2)) (hTO:IsPair s.heap TO a b)
  (h1:ItA t s.heap i1 l1 k1) (h2:ItA t2 s.heap i2 l2 k2) (hl1:SeA t s.heap l1 xs) (hl2:SeA t2 s.heap l2 ys) (he:xs[k1]? =none\/ys[k2]? =none)
  (hQ: ∀ h',(∀ c o,c≠z->c≠TO->c≠i1->c≠i2->s.heap.get? c=some o->h'.get? c=some o)->Q none { s with heap:=h' }):wpAny (model prog w) A (pyNext (.ref z)) Q Ex s:=by
 have hT:s.TypeIs (.ref z) "zip":=⟨_,hz,rfl⟩
 have isT: ∀ {t:Bool} {h h':Heap} {it l:Addr} {k:Nat} {c:Addr},ItA t h it l k->Heap.SameBut c h h'->it≠c->ItA t h' it l k:=fun q sb ne=>cY q fun o e=>(sb.2 _ ne).trans e
 have isU: ∀ {t:Bool} {h h':Heap} {l:Addr} {it:Array Value} {c:Addr},SeA t h l it->Heap.SameBut c h h'->l≠c->SeA t h' l it:=fun q sb ne=>tN q fun o e=>(sb.2 _ ne).trans e
 unfold pyNext
 have fin: ∀ (h':Heap) (e:Addr),(∀ c o,c≠z->c≠TO->c≠i1->c≠i2->s.heap.get? c=some o->h'.get? c=some o)->(∃ o,h'.get? e=some o/\o.cls= .type "StopIteration")->wpAny (model prog w) A (do if(<-isInstance (.ref e) (.type "StopIteration"))=true then pure none else throw (.ref e)) Q Ex { s with heap:=h' }:=fun h' e kk he=>by
  obtain⟨o,ho,hc⟩:=he
  exact ae (wpAny_isInstance (T:="StopIteration") (b:=true) ⟨o,ho,hc⟩ isSubtype_stop (af (hQ _ kk)))
 refine ae (wpAny_attempt (wpAny_callSpecial?_slot (name:=Str.ofString "__next__") hT F.slot_zip_next (wpAny_call_entry F.slot_zip_next hT F.entry_zip_next ?_ (F.args_zip_next_1 _))))
 show wpAny _ _ (field (.ref z) 2 >>= _) _ _ _
 refine ae (wpAny_field hz rfl (x:= .bool false) rfl ?_)
 show wpAny _ _ (field (.ref z) 3 >>= _) _ _ _
 refine ae (wpAny_field hz rfl (x:= .ref TI) rfl (ae (wpAny_seqItems hTI rfl ?_)))
 show wpAny _ _ (Builtin.SmallTypes.ownedTupleIsFree (.ref z) >>= _) _ _ _
 refine ae ?_;unfold Builtin.SmallTypes.ownedTupleIsFree
 refine ae (wpAny_field hz rfl (x:= .none) rfl (af ?_));simp only [if_true]
 refine ae (wpAny_rule (ae (wpAny_field hz rfl (x:= .ref TO) rfl (ae (wpAny_setField_rec hz (by simp) fun g1 z1 s1=> ?_)))))
 replace z1:IsZip g1 z TI TO .ellipsis:=z1
 refine ae ?_;simp only [List.zipIdx_cons,List.zipIdx_nil,List.forIn_cons,List.forIn_nil]
 refine ae (ae (wpAny_onRaise ?_));show wpAny _ _ (Builtin.SmallTypes.nextOf (.ref i1) >>= _) _ _ _
 cases hx:xs[k1]? with
 | none=>
  refine ae (lV hh (isT h1 s1 D.i1z) (isU hl1 s1 D.l1z) hx fun g2 e s2 he=> ?_)
  obtain⟨oe,q1,q2⟩:=he
  have z2:IsZip g2 z TI TO .ellipsis:=s2 _ _ D.i1z.symm z1
  have ez:e≠z:=fun x=>by subst x;rw [z2] at q1;cases q1;simp at q2
  exact wpAny_setField_rec z2 (by simp) fun g3 _ s3=>fin g3 e (fun c o c1 _ c3 _ x=>(s3.2 _ c1).trans (s2 _ _ c3 ((s1.2 _ c1).trans x))) ⟨oe,(s3.2 _ ez).trans q1,q2⟩
 | some x=>
  have hy:ys[k2]? =none:=he.resolve_left fun h=>by rw [hx] at h;cases h
  refine ae (fP (isT h1 s1 D.i1z) (isU hl1 s1 D.l1z) hx fun g2 p2 s2=>af ?_)
  have o2:IsPair g2 TO a b:=(s2.2 _ D.TOi1).trans ((s1.2 _ D.TOz).trans hTO)
  refine ae (wpAny_seqItems o2 rfl (ae (wpAny_updateSeq_pair o2 fun g3 o3 s3=> ?_)))
  refine ae (wpAny_letGo (af (ae (ae (wpAny_onRaise ?_)))));show wpAny _ _ (Builtin.SmallTypes.nextOf (.ref i2) >>= _) _ _ _
  refine ae (lV hh (isT (isT (isT h2 s1 D.i2z) s2 D.i12.symm) s3 D.TOi2.symm) (isU (isU (isU hl2 s1 D.l2z) s2 D.l2i1) s3 D.l2TO) hy fun g4 e s4 he=> ?_)
  obtain⟨oe,q1,q2⟩:=he
  have z4:IsZip g4 z TI TO .ellipsis:=s4 _ _ D.i2z.symm ((s3.2 _ D.TOz.symm).trans ((s2.2 _ D.i1z.symm).trans z1))
  have ez:e≠z:=fun x=>by subst x;rw [z4] at q1;cases q1;simp at q2
  exact wpAny_setField_rec z4 (by simp) fun g5 _ s5=>fin g5 e (fun c o c1 c2 c3 c4 x=>(s5.2 _ c1).trans (s4 _ _ c4 ((s3.2 _ c2).trans ((s2.2 _ c3).trans ((s1.2 _ c1).trans x))))) ⟨oe,(s5.2 _ ez).trans q1,q2⟩
end
noncomputable def itC (t:Bool):String:=if t then "tuple_iterator" else "list_iterator"
noncomputable abbrev zg1 (t:Bool) (h:Heap) (l:Addr):Heap:=h.push { cls:= .type (itC t),data:= .fields #[.ref l, .int 0 0] }
noncomputable abbrev zg3 (t t2:Bool) (h:Heap) (l m:Addr):Heap:=(zg1 t2 (zg1 t h l) m).push { cls:= .type "tuple",data:= .seq #[.ref h.objs.size, .ref (zg1 t h l).objs.size] }
noncomputable abbrev zg4 (t t2:Bool) (h:Heap) (l m:Addr):Heap:=(zg3 t t2 h l m).push { cls:= .type "tuple",data:= .seq #[.none, .none] }
noncomputable abbrev zg5 (t t2:Bool) (h:Heap) (l m:Addr):Heap:=(zg4 t t2 h l m).push { cls:= .type "zip",data:= .fields #[.none, .bool false, .bool false, .ref (zg1 t2 (zg1 t h l) m).objs.size, .ref (zg3 t t2 h l m).objs.size] }
theorem w6 (t t2:Bool) (l m:Addr) (xs ys:Array Value):Meets (Builtin.«zip.__new__» ⟨[.type "zip", .ref l, .ref m],[]⟩) (fun _ R s=>SeA t s.heap l xs/\SeA t2 s.heap m ys/\R (.ok (.ret (.ref (zg4 t t2 s.heap l m).objs.size))) { s with heap:=zg5 t t2 s.heap l m }):=
 .of_wp fun prog w A R s h=>by
  obtain⟨hp,g,d,tk,os⟩:=s
  obtain⟨t1,t2',h⟩:=h
  have hsub:=sub_zip
  cases t with
  | true=>
   have q1:Heap.IsTuple (Shared.heap ⟨hp,g,d,tk,os⟩) l xs:=t1
   cases t2 with
   | true=>
    have q2:Heap.IsTuple (Shared.heap ⟨hp.push { cls:= .type "tuple_iterator",data:= .fields #[.ref l, .int 0 0] },g,d,tk,os⟩) m ys:=Heap.IsTuple.push t2' _
    wp_walk using wpAny_pyIter_tuple q1,wpAny_pyIter_tuple q2
    exact⟨_,rfl,h⟩
   | false=>
    have q2:Heap.IsList (Shared.heap ⟨hp.push { cls:= .type "tuple_iterator",data:= .fields #[.ref l, .int 0 0] },g,d,tk,os⟩) m ys:=Heap.IsList.push t2' _
    wp_walk using wpAny_pyIter_tuple q1,wpAny_pyIter_list q2
    exact⟨_,rfl,h⟩
  | false=>
   have q1:Heap.IsList (Shared.heap ⟨hp,g,d,tk,os⟩) l xs:=t1
   cases t2 with
   | true=>
    have q2:Heap.IsTuple (Shared.heap ⟨hp.push { cls:= .type "list_iterator",data:= .fields #[.ref l, .int 0 0] },g,d,tk,os⟩) m ys:=Heap.IsTuple.push t2' _
    wp_walk using wpAny_pyIter_list q1,wpAny_pyIter_tuple q2
    exact⟨_,rfl,h⟩
   | false=>
    have q2:Heap.IsList (Shared.heap ⟨hp.push { cls:= .type "list_iterator",data:= .fields #[.ref l, .int 0 0] },g,d,tk,os⟩) m ys:=Heap.IsList.push t2' _
    wp_walk using wpAny_pyIter_list q1,wpAny_pyIter_list q2
    exact⟨_,rfl,h⟩
section
variable {prog:Program} {w:World} {A:Around} {Ex:Value->Shared->Prop} {s:Shared} {t t2:Bool}
theorem tQ {t:Bool} {h:Heap} {it l:Addr} (e:h.get? it=some { cls:= .type (itC t),data:= .fields #[.ref l, .int 0 0] }):ItA t h it l 0:=by
 cases t with
 | true=>exact⟨_,e,rfl,rfl⟩
 | false=>exact⟨_,e,rfl,rfl⟩
theorem tR {l m:Addr} {xs ys:Array Value} {Q:Value->Shared->Prop} (t1:SeA t s.heap l xs) (t2':SeA t2 s.heap m ys)
  (h: ∀ h',IsZip h' (s.heap.objs.size+4) (s.heap.objs.size+2) (s.heap.objs.size+3) .none->IsPair h' (s.heap.objs.size+2) (.ref s.heap.objs.size) (.ref (s.heap.objs.size+1))->IsPair h' (s.heap.objs.size+3) .none .none->
   ItA t h' s.heap.objs.size l 0->ItA t2 h' (s.heap.objs.size+1) m 0->h'.objs.size=s.heap.objs.size+5->(∀ c o,s.heap.get? c=some o->h'.get? c=some o)->Q (.ref (s.heap.objs.size+4)) { s with heap:=h' }):
  wpAny (model prog w) A (call (.type "zip") [.ref l, .ref m]) Q Ex s:=by
 refine callType_new F.called_zip (by decide) (F.typeCall_zip_2 _ _) (F.newCall_zip_2 _ _) (fun obj=>F.args_object_init_3 obj _ _) F.entry_zip_new (w6 t t2 l m xs ys) ⟨t1,t2', ?_⟩
 have n1:(zg1 t s.heap l).objs.size=s.heap.objs.size+1:=aj ..
 have n2:(zg1 t2 (zg1 t s.heap l) m).objs.size=s.heap.objs.size+2:=by rw [aj,n1]
 have n3:(zg3 t t2 s.heap l m).objs.size=s.heap.objs.size+3:=by rw [aj,n2]
 have n4:(zg4 t t2 s.heap l m).objs.size=s.heap.objs.size+4:=by rw [aj,n3]
 have n5:(zg5 t t2 s.heap l m).objs.size=s.heap.objs.size+5:=by rw [aj,n4]
 have up: ∀ {h:Heap} {o:Obj} {c:Addr} {x:Obj},h.get? c=some x->(h.push o).get? c=some x:=fun e=>ag _ e
 have g5:(zg5 t t2 s.heap l m).get? (zg4 t t2 s.heap l m).objs.size=some _:=ah _ rfl
 have g4:(zg5 t t2 s.heap l m).get? (zg3 t t2 s.heap l m).objs.size=some _:=up (ah _ rfl)
 have g3:(zg5 t t2 s.heap l m).get? (zg1 t2 (zg1 t s.heap l) m).objs.size=some _:=up (up (ah _ rfl))
 have g2:(zg5 t t2 s.heap l m).get? (zg1 t s.heap l).objs.size=some _:=up (up (up (ah _ rfl)))
 have g1:(zg5 t t2 s.heap l m).get? s.heap.objs.size=some _:=up (up (up (up (ah _ rfl))))
 show _/\_
 rw [n2,n3,n4] at g5;rw [n1,n2] at g3;rw [n3] at g4;rw [n1] at g2;rw [n4]
 exact⟨⟨_,g5,rfl⟩,h _ g5 g3 g4 (tQ g1) (tQ g2) n5 fun c o x=>up (up (up (up (up x))))⟩
end
noncomputable def zM (t t2:Bool) (K:PySem.W.Frag) (l m:Addr):It:=
 ⟨fun i H=> ∃ xs ys x y,SqA t K H l xs/\SqA t2 K H m ys/\xs[i]? =some x/\ys[i]? =some y,
  fun i H v H'=> ∃ p x y,H p=none/\v= .ref p/\(∀ xs,SqA t K H l xs->xs[i]? =some x)/\(∀ ys,SqA t2 K H m ys->ys[i]? =some y)/\H'=upd H p (.tup [x,y]),
  fun i H=> ∃ xs ys,SqA t K H l xs/\SqA t2 K H m ys/\(xs.length<=i\/ys.length<=i)⟩
theorem tU {t t2:Bool} {P:Program} {w:World} {K:PySem.W.Frag} {es:List Expr} {x1} {tp:Pos} {z TI TO i1 i2 l m:Addr} (D:ZipApart z TI TO i1 i2 l m):
  Turn P w K (.Tuple es x1 tp) (zM t t2 K l m) [z,TI,TO,i1,i2] z (fun i h=>IsZip h z TI TO .none/\IsPair h TI (.ref i1) (.ref i2)/\(∃ a b,IsPair h TO a b)/\ItA t h i1 l i/\ItA t2 h i2 m i) where
 mem:=by simp
 obj:=fun i h st b hb=>by
  obtain⟨z1,z2,⟨a,c,z3⟩,y4,y5⟩:=st
  obtain⟨o4,z4,d4⟩:=jV y4
  obtain⟨o5,z5,d5⟩:=jV y5
  simp only [av,List.not_mem_nil,or_false] at hb
  rcases hb with rfl | rfl | rfl | rfl | rfl
  ·exact⟨_,z1,fun v e=>by cases e⟩
  ·exact⟨_,z2,fun v e=>by cases e⟩
  ·exact⟨_,z3,fun v e=>by cases e⟩
  ·exact⟨_,z4,fun v e=>by rw [d4] at e;cases e⟩
  ·exact⟨_,z5,fun v e=>by rw [d5] at e;cases e⟩
 keep:=fun i h h' st k=>by
  obtain⟨z1,z2,⟨a,c,z3⟩,y4,y5⟩:=st
  exact⟨k _ (by simp) _ z1,k _ (by simp) _ z2,⟨a,c,k _ (by simp) _ z3⟩,cY y4 fun o e=>k _ (by simp) o e,cY y5 fun o e=>k _ (by simp) o e⟩
 item:=by
  intro X hP hw hK hc i pins s σ H E I hf st hg
  subst hP hw hK
  obtain⟨xs,ys,x,y,q1,q2,hx,hy⟩:=hg
  obtain⟨us,r1,p1,_⟩:=fO I q1
  obtain⟨vs,r2,p2,_⟩:=fO I q2
  obtain⟨u,hu,ru⟩:=r1.get hx
  obtain⟨v,hv,rv⟩:=r2.get hy
  obtain⟨z1,z2,⟨a,c,z3⟩,z4,z5⟩:=st
  have tI:TI<s.heap.objs.size:=ai z2
  have tz:z<s.heap.objs.size:=ai z1
  have tO:TO<s.heap.objs.size:=ai z3
  have t4:i1<s.heap.objs.size:=by obtain⟨o,e,_⟩:=jV z4;exact ai e
  have t5:i2<s.heap.objs.size:=by obtain⟨o,e,_⟩:=jV z5;exact ai e
  refine tP D z1 z2 z3 z4 z5 p1 p2 (x:=u) (y:=v) (by simpa using hu) (by simpa using hv) fun h' a1 a2 a3 a4 a5 a6 a7=>⟨_,rfl, ?_⟩
  have hfr:H s.heap.objs.size=none:=I.hok.fresh (ak _)
  -- the pair, laid
  have Ia:Inv X pins σ (upd H s.heap.objs.size (.tup [x,y])) { s with heap:=s.heap.push { cls:= .type "tuple",data:= .seq #[u,v] } }:=
   I.laid (t':=s.toks) (fun b o e=>ag _ e) (ak _) (show ObjOk X.prog X.w _ _ _ (.tup [x,y]) from⟨by rw [sizeLine_eq];simp,[u,v], .cons ru (.cons rv .nil),⟨_,ah _ rfl,rfl,_,rfl⟩,⟨_,ah _ rfl,rfl⟩⟩)
  have hne: ∀ b∈[z,TI,TO,i1,i2],b≠s.heap.objs.size:=fun b hb=>by
   simp only [av,List.not_mem_nil,or_false] at hb
   rcases hb with rfl | rfl | rfl | rfl | rfl
   ·exact bj tz
   ·exact bj tI
   ·exact bj tO
   ·exact bj t4
   ·exact bj t5
  have hf2: ∀ b∈[z,TI,TO,i1,i2],mO X pins (upd H s.heap.objs.size (.tup [x,y])) b:=fun b hb=>⟨by rw [aA (hne b hb)];exact(hf b hb).1,(hf b hb).2⟩
  have Ib:Inv X pins σ (upd H s.heap.objs.size (.tup [x,y])) { s with heap:=h' }:=by
   refine hX (s:={ s with heap:=s.heap.push { cls:= .type "tuple",data:= .seq #[u,v] } }) (t':=s.toks) Ia (fun b o hb e=> ?_) hf2
   simp only [av,List.not_mem_nil,or_false,not_or] at hb
   by_cases hq:b=s.heap.objs.size
   ·subst hq
    rw [show(s.heap.push { cls:= .type "tuple",data:= .seq #[u,v] }).get? s.heap.objs.size=some _ from ah _ rfl] at e
    cases e
    exact a5
   ·have e2:s.heap.get? b=some o:=by
     exact(Heap.get?_push_ne _ b _ hq).symm.trans e
    exact a7 b o hb.1 hb.2.2.1 hb.2.2.2.1 hb.2.2.2.2 e2
  refine wpAny_letOwnedTupleGo_zip a1 fun h2 b1 b2=> ?_
  have Ic:Inv X pins σ (upd H s.heap.objs.size (.tup [x,y])) { s with heap:=h2 }:=hX (s:={ s with heap:=h' }) (t':=s.toks) Ib (fun b o hb e=>(b2.2 b (fun q=>hb (by simp [q]))).trans e) hf2
  refine⟨.ref s.heap.objs.size,_,Ic,rfl,⟨_,x,y,hfr,rfl,fun xs' hx'=>by rw [hZ I hx' q1];exact hx,fun ys' hy'=>by rw [hZ I hy' q2];exact hy,rfl⟩,⟨b1, ?_,⟨u,v, ?_⟩, ?_, ?_⟩,fun b hb=>(hf2 b hb).1⟩
  ·exact(b2.2 _ D.TIz).trans (a7 _ _ D.TIz D.TITO D.TIi1 D.TIi2 z2)
  ·exact(b2.2 _ D.TOz).trans a2
  ·exact cY a3 fun o e=>(b2.2 _ D.i1z).trans e
  ·exact cY a4 fun o e=>(b2.2 _ D.i2z).trans e
 done:=by
  intro X hP hw hK hc i pins s σ H E I hf st hg
  subst hP hw hK
  obtain⟨xs,ys,q1,q2,hx⟩:=hg
  obtain⟨us,r1,p1,_⟩:=fO I q1
  obtain⟨vs,r2,p2,_⟩:=fO I q2
  obtain⟨z1,z2,⟨a,c,z3⟩,z4,z5⟩:=st
  have n1:=r1.length
  have n2:=r2.length
  refine w5 (I.ok.hd hc) D z1 z2 z3 z4 z5 p1 p2 (hx.elim (fun h=> .inl (by simp;omega)) fun h=> .inr (by simp;omega)) fun h' k=>⟨rfl,hX (t':=s.toks) I (fun b o hb e=> ?_) hf⟩
  simp only [av,List.not_mem_nil,or_false,not_or] at hb
  exact k b o hb.1 hb.2.2.1 hb.2.2.2.1 hb.2.2.2.2 e
 self:=fun _ _ _ _ _ st h=>wpAny_pyIter_zip st.1 h
section
variable {X:Cx} {ad:Ad} {pins:List (Addr×Obj)} {s:Shared} {σ:St} {H G:Hp} {ρ:Rho} {Q:VK} {E:Nat->Hp->Prop} {pos p ap cp:Pos} {o a b c tg:Expr} {f g h:F}
theorem aCf {G1 H1:Hp} {x:V} {ds:List D} (e:Same G1 H1) (q:Seq X ad G1 H1 (.lst ds) x): ∃ l xs,x= .ref l/\SqL X.K H1 l xs/\aE X.K ad G1 ds xs:=by
 rcases q with q | ⟨l,vs,ds',e1,e2,e3,e4,e5⟩
 ·unfold Rep at q
  obtain⟨l,vs,rfl,h1,h2⟩:=q
  exact⟨l,vs,rfl,e.seq h1,h2⟩
 ·cases e1
  exact⟨l,vs,e2,SqL.of e4,e5⟩
theorem tV {m:Str} {id:String} {r:Fn} (slot:PySem.Slot "list" m id) (hty:typeOf (.builtin id)=pure (.type "method_descriptor"))
  (ho:ML X ad o f) (ha:ME X ad a g) (hs:starEach [a] X.env=(false,eval a X.env)::starEach [] X.env) (hbase:attributeBase o m X.env (eval o X.env)=eval o X.env) (hline:(ap.endLine==cp.line)=true)
  (hm: ∀ (pins:List (Addr×Obj)) (s:Shared) (σ:St) (H G:Hp) (l:Addr) (xs:List V) (ds:List D) (y:D) (v:V) (u:Value) (Q:VK) (E:Nat->Hp->Prop),Inv X pins σ H s->Same G H->SqL X.K H l xs->aE X.K ad G ds xs->Rep X.K ad G y v->aP v u->
   RK X.K ad G H (r [.lst ds,y]) Q E->wpAny (model X.prog X.w) X.A (call (.builtin id) [.ref l,u]) (EP X pins σ Q) X.xe s):ME X ad (.Call (.Attribute o m ap) [a] [] cp) (jI r f g):=by
 intro pins s σ H Q I ⟨G,ρ,E,hG,hS,hx,hr⟩
 refine wpAny_Call_method_late hbase (d6 hs) hline rfl (L2.thn (ho.lk pins s σ H G ρ _ Q E I hG hS hx hr) fun v s1 hz_=> ?_)
 obtain⟨x,d,G1,H1,I1,r1,st1,q1,k1⟩:=hz_
 cases d<;>try exact ba k1
 rename_i ds
 obtain⟨l,xs,rfl,hq,rq⟩:=aCf st1.gh q1
 cases (show v=Value.ref l from r1)
 obtain⟨its,rv,pl,_⟩:=I1.list hq
 obtain⟨ob,n,e1,e2,e3,e4⟩:=pl
 refine⟨"list",id,PySem.F.plainAttrs_list,slot,hty,⟨ob,e1,e2⟩,fun a' ea=>by cases ea;exact⟨ob,e1,e3⟩, ?_⟩
 rw [hs]
 refine Calls.callWith_builtin rfl (Calls.evalArgs_plain (Calls.spliced_cons (L2.thn (ha.thn I1 st1.gh (hS.step st1) hx k1) fun u s2 ⟨w,y,G2,H2,I2,r2,st2,q2,k2⟩=>Calls.spliced_nil ?_)))
 exact hm pins s2 σ H2 G2 l xs ds y w u Q E I2 st2.gh (st2.sh.seq hq) (rq.mono st2.sg) q2 r2 k2
theorem oY (hu:X.A.units+62<cLine) (ho:ML X ad o f) (ha:ME X ad a g) (hs:starEach [a] X.env=(false,eval a X.env)::starEach [] X.env) (hbase:attributeBase o "count" X.env (eval o X.env)=eval o X.env) (hline:(ap.endLine==cp.line)=true):
  ME X ad (.Call (.Attribute o "count" ap) [a] [] cp) (jI lG f g):=by
 refine tV PySem.F.slot_list_count PySem.F.type_list_count ho ha hs hbase hline ?_
 intro pins s σ H G l xs ds y v u Q E I hG hq rq q r k
 have k':RK X.K ad G H (if mF y ds then .ok (.int ((ds.countP fun z=>deq z y):Nat)) else .bad) Q E:=k
 by_cases hc:mF y ds=true
 ·rw [if_pos hc] at k'
  obtain⟨its,rv,⟨⟨cls,dd,data,sl⟩,n,e1,e2,e3,e4⟩,_⟩:=I.list hq
  simp only at e2 e3 e4
  subst e2 e4
  obtain⟨e,he,_,hcount,_⟩:=i4 hu I hG hc q r rq rv
  refine call_meets PySem.F.slot_list_count ⟨_,e1,rfl⟩ PySem.F.entry_list_count (PySem.F.args_list_count_2 _ _) (SeqAt.list_countAt l its.toArray n dd sl u e) ⟨e1,he, ?_⟩
  refine⟨.int _,H,I.tok _,⟨_,rfl⟩, ?_⟩
  rw [<-hcount] at k'
  exact k'.ok_now hG aO
 ·rw [if_neg hc] at k'
  exact k'.elim
theorem oZ (hu:X.A.units+62<cLine) (ho:ML X ad o f) (ha:ME X ad a g) (hs:starEach [a] X.env=(false,eval a X.env)::starEach [] X.env) (hbase:attributeBase o "index" X.env (eval o X.env)=eval o X.env) (hline:(ap.endLine==cp.line)=true):
  ME X ad (.Call (.Attribute o "index" ap) [a] [] cp) (jI lI f g):=by
 refine tV PySem.F.slot_list_index PySem.F.type_list_index ho ha hs hbase hline ?_
 intro pins s σ H G l xs ds y v u Q E I hG hq rq q r k
 have k':RK X.K ad G H (if mF y ds then(match ds.findIdx? fun z=>deq z y with | some k=> .ok (.int (k:Nat)) | none=> .bad) else .bad) Q E:=k
 by_cases hc:mF y ds=true
 ·rw [if_pos hc] at k'
  obtain⟨its,rv,⟨⟨cls,dd,data,sl⟩,n,e1,e2,e3,e4⟩,hz⟩:=I.list hq
  simp only at e2 e3 e4
  subst e2 e4
  obtain⟨e,he,_,_,hfind⟩:=i4 hu I hG hc q r rq rv
  cases hf:ds.findIdx? fun z=>deq z y with
  | none=>rw [hf] at k';exact k'.elim
  | some j=>
   rw [hf] at k' hfind
   obtain⟨hj,hit,hno⟩:=List.findIdx?_eq_some_iff_getElem.mp hfind
   have hl:=rv.length
   refine call_meets PySem.F.slot_list_index ⟨_,e1,rfl⟩ PySem.F.entry_list_index (PySem.F.args_list_index_2 _ _) (SeqAt.list_indexAt l its.toArray n dd sl u e j (by simpa using hj) ?_ (by simpa using hit) (fun m hm hlt=>by simpa using hno m hlt)) ⟨e1,he, ?_⟩
   ·have:(sizeLine:Nat)<2 ^ 63 - 1:=by decide
    omega
   ·exact⟨.int _,H,I.tok _,⟨_,rfl⟩,k'.ok_now hG aO⟩
 ·rw [if_neg hc] at k'
  exact k'.elim
theorem o0 {f:F} {k:D->R} {W:It->Hp->Prop} {Q':VK} (hG:Same G H) (hS:SL X.K ad G H ρ σ) (hx:XP X ad σ E) (hr:IGK X ad G H ((f ρ).bind k) W E)
  (q: ∀ v d G1 H1,Step G H G1 H1->Rep X.K ad G1 d v->IGK X ad G1 H1 (k d) W E->Q' v H1):tE X ad f σ H Q':=by
 have ikst: ∀ {r:R} {G1 H1:Hp},IGK X ad G H r W E->Step G H G1 H1->IGK X ad G1 H1 r W E:=fun {r G1 H1} h st=>by
  cases r with
  | ok d=>obtain⟨ds,e,h⟩:=h;exact⟨ds,e,fun J G' H' st' hi=>h J G' H' (st.trans st') hi⟩
  | ow l=>exact fun J G' H' st' hi=>h J G' H' (st.trans st') hi
  | ex c=>exact fun G' H' st'=>h G' H' (st.trans st')
  | bad=>exact h
 refine⟨G,ρ,E,hG,hS,hx, ?_⟩
 cases e:f ρ with
 | ok d=>
  rw [e] at hr
  exact fun v G1 H1 st r=>q v d G1 H1 st r (ikst hr st)
 | ow xs=>
  rw [e] at hr
  intro p vs G1 H1 st n m e' r
  obtain⟨G2,st2,r2⟩:=bB (X:=X) (ad:=ad) st n m e' r
  exact q _ _ G2 H1 st2 r2 (ikst hr st2)
 | ex c=>
  rw [e] at hr
  exact hr
 | bad=>
  rw [e] at hr
  exact hr
noncomputable def iZp (K:PySem.W.Frag) (ta:TA):TI:=fun σ H R=>ta σ H fun vs H1=> ∃ t t2 l m xs ys,vs=[.ref l, .ref m]/\SqA t K H1 l xs/\SqA t2 K H1 m ys/\(xs.length<=sizeLine->R (zM t t2 K l m) H1)
theorem zN {es:List Expr} {kt} {tp:Pos} {ta:TA} (hg:L2.Gl X "zip") (hm:X.mg "zip"=none) (ha:PA X [a,b] ta) (he:starEach [a,b] X.env=(false,eval a X.env)::starEach [b] X.env) (he2:starEach [b] X.env=(false,eval b X.env)::starEach [] X.env):
  PI X (.Tuple es kt tp) (.Call (.Name "zip" p) [a,b] [] pos) (iZp X.K ta):=by
 intro pins s σ H R I h
 refine Call_ (gN (u:= .type "zip") I hg hm (by decide+kernel) (PyProof.Rows.callWith_type1 (L2.thn (ha pos pins s σ H _ I h) fun us s1 ⟨vs,H1,I1,r1,q1⟩=> ?_) he (by rw [he2];rfl)) (by decide) (by decide))
 obtain⟨t,t2,l,m,xs,ys,rfl,hq1,hq2,q⟩:=q1
 obtain⟨u,v,rfl,ru,rv⟩:=r1.two
 cases (show u=Value.ref l from ru)
 cases (show v=Value.ref m from rv)
 obtain⟨its,_,p1,z1⟩:=fO I1 hq1
 obtain⟨its2,_,p2,_⟩:=fO I1 hq2
 refine tR p1 p2 fun h' a1 a2 a3 a4 a5 a6 a7=>wpAny_pyIter_zip a1 ?_
 have l1:l<s1.heap.objs.size:=by cases t<;>(obtain⟨o,e,_⟩:=p1;exact ai e)
 have l2:m<s1.heap.objs.size:=by cases t2<;>(obtain⟨o,e,_⟩:=p2;exact ai e)
 refine⟨s1.heap.objs.size+4,[s1.heap.objs.size+4,s1.heap.objs.size+2,s1.heap.objs.size+3,s1.heap.objs.size,s1.heap.objs.size+1],_,zM t t2 X.K l m,H1,rfl,I1.kept (t':=s1.toks) a7,tU (tK l1 l2),⟨a1,a2,⟨_,_,a3⟩,a4,a5⟩,fun b hb=> ?_,q z1⟩
 have hb':s1.heap.objs.size<=b:=by
  simp only [av,List.not_mem_nil,or_false] at hb
  rcases hb with rfl | rfl | rfl | rfl | rfl
  ·exact Nat.le_add_right _ 4
  ·exact Nat.le_add_right _ 2
  ·exact Nat.le_add_right _ 3
  ·exact ak _
  ·exact Nat.le_add_right _ 1
 exact I1.fpOk hb' (I1.hok.fresh hb')
theorem aCg {ds es:List D} {i:Nat} {d:D} (e:((ds.zip es).map fun p=>D.tup [p.1,p.2])[i]? =some d): ∃ x y,ds[i]? =some x/\es[i]? =some y/\d= .tup [x,y]:=by
 rw [List.getElem?_map] at e
 cases q:(ds.zip es)[i]? with
 | none=>rw [q] at e;cases e
 | some p=>
  rw [q] at e
  rw [List.getElem?_zip_eq_some] at q
  exact⟨p.1,p.2,q.1,q.2,(Option.some.inj e).symm⟩
noncomputable def isA:Bool->List D->D->Prop
 | true,ds,d=>d= .tup ds
 | false,ds,d=>d= .lst ds
theorem jW {t:Bool} {G1:Hp} {d:D} {v:V} {ds:List D} (c:isA t ds d) (r:Rep X.K ad G1 d v): ∃ l vs,v= .ref l/\SqA t X.K G1 l vs/\aE X.K ad G1 ds vs:=by
 cases t with
 | true=>cases c;unfold Rep at r;exact r
 | false=>cases c;unfold Rep at r;exact r
theorem o6 {t t2:Bool} {G1 H1 H2:Hp} {l m:Addr} {i:Nat} {vs ws:List V} {ds es:List D} {d:D} {x:V} (h1:SqA t X.K G1 l vs) (r1:aE X.K ad G1 ds vs) (h2:SqA t2 X.K G1 m ws) (r2:aE X.K ad G1 es ws) (hg:Same G1 H1) (e:((ds.zip es).map fun p=>D.tup [p.1,p.2])[i]? =some d):
  (zM t t2 X.K l m).go i H1/\ ∀ x H2,(zM t t2 X.K l m).yld i H1 x H2-> ∃ G2,Step G1 H1 G2 H2/\Rep X.K ad G2 d x:=by
 obtain⟨x,y,e1,e2,rfl⟩:=aCg e
 obtain⟨v,g1,q1⟩:=r1.get e1
 obtain⟨w,g2,q2⟩:=r2.get e2
 refine⟨⟨vs,ws,v,w,aM hg h1,aM hg h2,g1,g2⟩, ?_⟩
 rintro x' H2' ⟨p,x2,y2,hn,rfl,b1,b2,rfl⟩
 have c1:=b1 vs (aM hg h1);rw [g1] at c1;cases c1
 have c2:=b2 ws (aM hg h2);rw [g2] at c2;cases c2
 refine⟨upd G1 p (.tup [v,w]),Step.new hg hn, ?_⟩
 have sm:Same G1 (upd G1 p (.tup [v,w])):=Same.upd_new (hg.free hn)
 unfold Rep
 exact⟨p,[v,w],rfl,SqT.of aC,aE.cons (q1.mono sm) (aE.cons (q2.mono sm) aE.nil)⟩
theorem o7 {t t2:Bool} {G1 H1:Hp} {l m:Addr} {vs ws:List V} {ds es:List D} (h1:SqA t X.K H1 l vs) (n1:vs.length=ds.length) (h2:SqA t2 X.K H1 m ws) (n2:ws.length=es.length):(zM t t2 X.K l m).stop ((ds.zip es).map fun p=>D.tup [p.1,p.2]).length H1:=by
 refine⟨vs,ws,h1,h2, ?_⟩
 simp only [aq,List.length_zip]
 omega
theorem aG1 {es:List Expr} {kt} {tp:Pos} (hg:L2.Gl X "zip") (hm:X.mg "zip"=none) (ha:ME X ad a f) (hb:ME X ad b g) (he:starEach [a,b] X.env=(false,eval a X.env)::starEach [b] X.env) (he2:starEach [b] X.env=(false,eval b X.env)::starEach [] X.env):
  MI X ad (.Tuple es kt tp) (.Call (.Name "zip" p) [a,b] [] pos) (aEi f g):=by
 intro pins s σ H W I ⟨G,ρ,E,hG,hS,hx,hr⟩
 refine zN (ta:=mQ (tE X ad f) (mQ (tE X ad g) aEh)) hg hm (bU ha (bU hb cI he2) he) he he2 pins s σ H W I ?_
 show tE X ad f σ H fun v H1=>tE X ad g σ H1 fun v2 H2=> ∃ t t2 l m xs ys,[v,v2]=[.ref l, .ref m]/\SqA t X.K H2 l xs/\SqA t2 X.K H2 m ys/\(xs.length<=sizeLine->W (zM t t2 X.K l m) H2)
 refine nC hG hS hx hr fun v d G1 H1 st r k=> ?_
 refine nC st.gh (hS.step st) hx k fun v2 d2 G2 H2 st2 r2 k2=> ?_
 obtain⟨t,t2,ds,es',c1,c2,k2⟩: ∃ t t2 ds es',isA t ds d/\isA t2 es' d2/\IK X ad G2 H2 (.ok (.lst ((ds.zip es').map fun p=>D.tup [p.1,p.2]))) W E:=by
  cases d<;>try exact ba k2
  ·cases d2<;>try exact ba k2
   ·exact⟨true,true,_,_,rfl,rfl,k2⟩
   ·exact⟨true,false,_,_,rfl,rfl,k2⟩
  ·cases d2<;>try exact ba k2
   ·exact⟨false,true,_,_,rfl,rfl,k2⟩
   ·exact⟨false,false,_,_,rfl,rfl,k2⟩
 obtain⟨al,e,hw⟩:=k2
 cases e
 obtain⟨l,vs,rfl,q1,y1⟩:=jW c1 r
 obtain⟨m,ws,rfl,q2,y2⟩:=jW c2 r2
 have q1':=aM st2.sg q1
 have y1':=y1.mono st2.sg
 refine⟨t,t2,l,m,vs,ws,rfl,aM st2.gh q1',aM st2.gh q2,fun few=>hw _ G2 H2 (Step.refl st2.gh) ⟨fun i G3 H3 d' s3 e=> ?_,fun G3 H3 s3=>o7 (G1:=G3) (aM s3.sh (aM st2.gh q1')) y1'.length (aM s3.sh (aM st2.gh q2)) y2.length, ?_⟩⟩
 ·exact o6 (H2:=H3) (x:= .ref l) (aM s3.sg q1') (y1'.mono s3.sg) (aM s3.sg q2) (y2.mono s3.sg) s3.gh e
 ·have:=y1'.length
  simp only [aq,List.length_zip]
  omega
theorem aCh {es:List Expr} {kt} {tp:Pos} (hg:L2.Gl X "zip") (hm:X.mg "zip"=none) (ha:ME X ad a f) (hb:ME X ad b g) (he:starEach [a,b] X.env=(false,eval a X.env)::starEach [b] X.env) (he2:starEach [b] X.env=(false,eval b X.env)::starEach [] X.env):
  MIG X ad (.Tuple es kt tp) (.Call (.Name "zip" p) [a,b] [] pos) (aEi f g):=by
 intro pins s σ H W I ⟨G,ρ,E,hG,hS,hx,hr⟩
 refine zN (ta:=mQ (tE X ad f) (mQ (tE X ad g) aEh)) hg hm (bU ha (bU hb cI he2) he) he he2 pins s σ H W I ?_
 show tE X ad f σ H fun v H1=>tE X ad g σ H1 fun v2 H2=> ∃ t t2 l m xs ys,[v,v2]=[.ref l, .ref m]/\SqA t X.K H2 l xs/\SqA t2 X.K H2 m ys/\(xs.length<=sizeLine->W (zM t t2 X.K l m) H2)
 refine o0 hG hS hx hr fun v d G1 H1 st r k=> ?_
 refine o0 st.gh (hS.step st) hx k fun v2 d2 G2 H2 st2 r2 k2=> ?_
 obtain⟨t,t2,ds,es',c1,c2,k2⟩: ∃ t t2 ds es',isA t ds d/\isA t2 es' d2/\IGK X ad G2 H2 (.ok (.lst ((ds.zip es').map fun p=>D.tup [p.1,p.2]))) W E:=by
  cases d<;>try exact ba k2
  ·cases d2<;>try exact ba k2
   ·exact⟨true,true,_,_,rfl,rfl,k2⟩
   ·exact⟨true,false,_,_,rfl,rfl,k2⟩
  ·cases d2<;>try exact ba k2
   ·exact⟨false,true,_,_,rfl,rfl,k2⟩
   ·exact⟨false,false,_,_,rfl,rfl,k2⟩
 obtain⟨al,e,hw⟩:=k2
 cases e
 obtain⟨l,vs,rfl,q1,y1⟩:=jW c1 r
 obtain⟨m,ws,rfl,q2,y2⟩:=jW c2 r2
 have q1':=aM st2.sg q1
 have y1':=y1.mono st2.sg
 refine⟨t,t2,l,m,vs,ws,rfl,aM st2.gh q1',aM st2.gh q2,fun few=>hw _ G2 H2 (Step.refl st2.gh) ⟨fun i G3 H3 d' s3 s4 e=> ?_,fun G3 H3 s3 s4=>o7 (G1:=G3) (aM s4 (aM s3 q1')) y1'.length (aM s4 (aM s3 q2)) y2.length⟩⟩
 exact o6 (H2:=H3) (x:= .ref l) (aM s3 q1') (y1'.mono s3) (aM s3 q2) (y2.mono s3) s4 e
theorem w8 (hc:MT X ad c h) (ha:MT X ad a f) (hb:MT X ad b g):MT X ad (.IfExp c a b pos) (rIf h f g):=by
 intro pins s σ H Q I ⟨G,ρ,E,hG,hS,hx,ht,hr⟩
 have hr':RK X.K ad G H ((h ρ).bind fun x=>match x with | .bl true=>f ρ | .bl false=>g ρ | _=> .bad) (fun v H'=> ∃ b,v= .bl b/\Q b H') E:=hr
 have ht':g9 ((h ρ).bind fun x=>match x with | .bl true=>f ρ | .bl false=>g ρ | _=> .bad):=ht
 have e:isTrue (.IfExp c a b pos) X.env (eval (.IfExp c a b pos) X.env)=(do if<-isTrue c X.env (eval c X.env) then isTrue a X.env (eval a X.env) else isTrue b X.env (eval b X.env)):=rfl
 rw [e]
 refine ae ?_
 rcases dH ht' with ⟨d,e1,ht2⟩ | ⟨xs,e1,ht2⟩ | ⟨k,e1⟩
 ·cases d<;>try exact(a9 ht2).elim
  rename_i k
  rw [e1] at hr'
  refine L2.thn (hc pins s σ H (fun b H1=>b=k/\ ∃ G1,Step G H G1 H1) I ⟨G,ρ,E,hG,hS,hx, .inl ⟨k,e1⟩, ?_⟩) fun b s1 ⟨H1,I1,e2,G1,st⟩=> ?_
  ·rw [e1]
   intro v G1 H1 st r
   unfold Rep at r;subst r
   exact⟨k,rfl,rfl,G1,st⟩
  ·subst e2
   cases b with
   | true=>exact wpAny_ite_true (by decide) (ha pins s1 σ H1 Q I1 ⟨G1,ρ,E,st.gh,hS.step st,hx,ht2,RK.step hr' st⟩)
   | false=>exact wpAny_ite_false (by decide) (hb pins s1 σ H1 Q I1 ⟨G1,ρ,E,st.gh,hS.step st,hx,ht2,RK.step hr' st⟩)
 ·exact(a9 ht2).elim
 ·rw [e1] at hr'
  refine L2.thn (hc pins s σ H (fun b H1=>False) I ⟨G,ρ,E,hG,hS,hx, .inr ⟨k,e1⟩, ?_⟩) fun b s1 ⟨H1,I1,z⟩=>z.elim
  rw [e1]
  exact hr'
end
section
variable {X:Cx} {ad:Ad} {pins:List (Addr×Obj)} {s:Shared} {σ:St} {H G:Hp} {ρ:Rho} {Q:VK} {E:Nat->Hp->Prop} {pos p p2 pos2:Pos} {a:Expr} {f:F}
end
section
variable {prog:Program} {w:World} {A:Around} {Ex:Value->Shared->Prop} {s:Shared}
end
section
variable {X:Cx} {ad:Ad}
end
section
variable {prog:Program} {w:World} {A:Around} {Ex:Value->Shared->Prop} {s:Shared}
end
section
variable {prog:Program} {w:World} {A:Around} {Ex:Value->Shared->Prop} {s:Shared}
end
section
variable {X:Cx} {ad:Ad} {pos p p2 pos2:Pos} {a:Expr} {f:F}
end
theorem tW: ∀ (l:List Int) (m:Int),m<=vO m l/\ ∀ x∈l,x<=vO m l
 | [],m=>⟨Int.le_refl _,nofun⟩
 | i::r,m=>by
  have h:=tW r (if m<i then i else m)
  unfold vO
  by_cases c:m<i
  ·rw [if_pos c] at h ⊢
   exact⟨by omega,fun x hx=>by rcases av.1 hx with e | e;(subst e;exact h.1);exact h.2 x e⟩
  ·rw [if_neg c] at h ⊢
   exact⟨h.1,fun x hx=>by rcases av.1 hx with e | e;(subst e;omega);exact h.2 x e⟩
theorem o8: ∀ (l:List Int) (m:Int),vO m l∈m::l
 | [],m=> .head _
 | i::r,m=>by
  unfold vO
  have h:=o8 r (if m<i then i else m)
  by_cases c:m<i
  ·rw [if_pos c] at h ⊢;exact .tail _ h
  ·rw [if_neg c] at h ⊢
   rcases av.1 h with e | e
   ·rw [e];exact .head _
   ·exact .tail _ (.tail _ e)
theorem aL9 {n:Int} {r:List Int} {j:Nat} (hj:j<(n::r).length) (h: ∀ i,i<(n::r).length->(n::r).getD i 0<=(n::r).getD j 0):(n::r).getD j 0=vO n r:=by
 have a:=tW r n
 have b:=getD_mem hj
 obtain⟨k,hk,e⟩:=mem_getD (o8 r n)
 have c:=h k hk
 have d:(n::r).getD j 0<=vO n r:=by
  rcases av.1 b with e | e
  ·rw [e];exact a.1
  ·exact a.2 _ e
 rw [e] at c;omega
section
variable {X:Cx} {ad:Ad}
end
section
variable {prog:Program} {w:World} {A:Around} {Ex:Value->Shared->Prop} {s:Shared}
end
section
variable {prog:Program} {w:World} {A:Around} {Ex:Value->Shared->Prop} {s:Shared}
end
section
open AutoSeq1 (wpAny_loadPart')
open MeetsSeq MeetsSeq2 MeetsSeq3 SeqRoads2 SeqAt
end
section
variable {X:Cx} {ad:Ad} {pins:List (Addr×Obj)} {s:Shared} {σ:St} {H G:Hp} {ρ:Rho} {Q:VK} {E:Nat->Hp->Prop} {pos p ap cp tp:Pos} {o a b c tg:Expr} {f g h:F}
theorem aCi (ho:ME X ad o f) (hbase:attributeBase o "bit_length" X.env (eval o X.env)=eval o X.env) (hline:(ap.endLine==cp.line)=true):ME X ad (.Call (.Attribute o "bit_length" ap) [] [] cp) (aH aF1 [f]):=by
 intro pins s σ H Q I ⟨G,ρ,E,hG,hS,hx,hr⟩
 unfold aH at hr
 rw [jQ] at hr
 refine wpAny_Call_method_late hbase (by rfl) hline rfl (L2.thn (ho.thn I hG hS hx hr) fun v s1 hz_=> ?_)
 obtain⟨x,d,G1,H1,I1,r1,st1,q1,k1⟩:=hz_
 cases d<;>try exact ba k1
 rename_i i
 unfold Rep at q1;subst q1
 obtain⟨t,rfl⟩:=r1
 have k2:RK X.K ad G1 H1 (.ok (.int (Builtin.Int.intBits i))) Q E:=k1
 refine⟨"int","int.bit_length",PySem.F.plainAttrs_int,PySem.F.slot_int_bit_length,PySem.F.type_int_bit_length,typeIs_int s1 i t,(fun a' ea=>by cases ea), ?_⟩
 refine PyProof.Rows.callWith_method0 ?_
 exact call_int_bit_length ⟨.int _,H1,I1.tok _,⟨_,rfl⟩,k2.ok_now st1.gh aO⟩
end
noncomputable def tab (m mv:Nat) (ps:List Nat):SetTable:={ mask:=m,place:=ps.toArray,dummies:= #[],finger:=0,led:=true,moves:=mv,plain:=true }
noncomputable def tbl (m mv:Nat) (led:Bool) (ps:List Nat):SetTable:={ mask:=m,place:=ps.toArray,dummies:= #[],finger:=0,led:=led,moves:=mv,plain:=true }
noncomputable def adv (m:Nat) (p:SetTable.Probe):SetTable.Probe:=(tab m 0 []).advance p
noncomputable def pr (m:Nat) (h:Int):Nat->SetTable.Probe
 | 0=>(tab m 0 []).probeStart h
 | k+1=>adv m (pr m h k)
noncomputable def lp (m:Nat) (h:Int):Nat->Nat×Nat
 | 0=>(SetTable.bits h % (m+1),SetTable.bits h)
 | r+1=>SetTable.leap m (lp m h r).1 (lp m h r).2
def Rch (m:Nat) (h:Int) (ps:List Nat) (p:Nat):Prop:= ∃ k,k<10 * SetTable.turns m/\(pr m h k).j=p/\ ∀ b,b<k->(pr m h b).j∈ps
structure TI (m:Nat) (L:List (Nat×Int×Value)):Prop where
 up:(L.map (·.1)).Pairwise (· < ·)
 le: ∀ x∈L,x.1<=m
 rch: ∀ x∈L,Rch m x.2.1 (L.map (·.1)) x.1
mutual
noncomputable def hk:PyData->Bool
 | .none=>true
 | .int _=>true
 | .tuple xs=>hks xs
 | _=>false
noncomputable def hks:List PyData->Bool
 | []=>true
 | x::xs=>hk x&&hks xs
end
mutual
noncomputable def hsh:PyData->Int
 | .none=>0xFCA86420
 | .int i=>hashInt i
 | .tuple xs=>reduceHash (Builtin.Tuple.tupleHashOf (aG2 xs))
 | _=>0
noncomputable def aG2:List PyData->List Int
 | []=>[]
 | x::xs=>hsh x::aG2 xs
end
mutual
theorem aG3: ∀ d:PyData,hk d=true->d.canLay0=true
 | .none,_=>rfl
 | .int _,_=>rfl
 | .tuple xs,h=>by
  rw [hk] at h
  rw [PyData.canLay0]
  exact tY xs h
 | .bool _,h=>by simp [hk] at h
 | .str _,h=>by simp [hk] at h
 | .list _,h=>by simp [hk] at h
 | .dict _,h=>by simp [hk] at h
theorem tY: ∀ xs:List PyData,hks xs=true->PyData.canLayAll0 xs=true
 | [],_=>rfl
 | x::xs,h=>by
  rw [hks,aw] at h
  rw [PyData.canLayAll0,aG3 x h.1,tY xs h.2]
  rfl
end
mutual
theorem aCj: ∀ d1 d2:PyData,hk d1=true->hk d2=true->PyData.eqv d1 d2=true->d1=d2
 | .none,d2,_,h2,e=>by cases d2<;>simp [hk] at h2<;>simp [PyData.eqv] at e ⊢
 | .int i,d2,_,h2,e=>by cases d2<;>simp [hk] at h2<;>simp [PyData.eqv] at e ⊢<;>exact e
 | .tuple xs,d2,h1,h2,e=>by
  cases d2<;>simp [hk] at h2<;>simp [PyData.eqv] at e
  rename_i ys
  rw [o9 xs ys (by simpa [hk] using h1) h2 e]
 | .bool _,_,h,_,_=>by simp [hk] at h
 | .str _,_,h,_,_=>by simp [hk] at h
 | .list _,_,h,_,_=>by simp [hk] at h
 | .dict _,_,h,_,_=>by simp [hk] at h
theorem o9: ∀ xs ys:List PyData,hks xs=true->hks ys=true->PyData.eqvAll xs ys=true->xs=ys
 | [],[],_,_,_=>rfl
 | [],_::_,_,_,e=>by simp [PyData.eqvAll] at e
 | _::_,[],_,_,e=>by simp [PyData.eqvAll] at e
 | x::xs,y::ys,h1,h2,e=>by
  rw [hks,aw] at h1 h2
  rw [PyData.eqvAll,aw] at e
  rw [aCj x y h1.1 h2.1 e.1,o9 xs ys h1.2 h2.2 e.2]
end
section
variable {prog:Program} {w:World}
mutual
noncomputable def dr:PyData->Nat
 | .tuple xs=>drs xs+1
 | _=>1
noncomputable def drs:List PyData->Nat
 | []=>0
 | x::xs=>dr x+drs xs
end
end
section
variable {prog:Program} {w:World} {A:Around} {E:Value->Shared->Prop} {s:Shared}
end
section
variable {prog:Program} {w:World} {A:Around} {E:Value->Shared->Prop} {s:Shared}
end
def Key (h:Heap) (d:PyData) (v:Value):Prop:=(∃ b,v= .ref b)/\hk d=true/\d.depth<=8/\ ∃ as,Reads h v d as
section
variable {prog:Program} {w:World} {A:Around} {E:Value->Shared->Prop} {s:Shared}
end
mutual
theorem jX: ∀ {x y:D},same x y=true->(oG x).length=(oG y).length
 | .int _,y,h=>by cases y<;>simp [same] at h;rfl
 | .tup xs,y,h=>by
  cases y<;>simp [same] at h
  simp only [oG];exact lW h
 | .non,_,h=>by simp [same] at h
 | .bl _,_,h=>by simp [same] at h
 | .str _,_,h=>by simp [same] at h
 | .lst _,_,h=>by simp [same] at h
 | .exc _,_,h=>by simp [same] at h
 | .fn _,_,h=>by simp [same] at h
theorem lW: ∀ {xs ys:List D},bO xs ys=true->(gY xs).length=(gY ys).length
 | [],[],_=>rfl
 | [],_::_,h=>by simp [bO] at h
 | _::_,[],h=>by simp [bO] at h
 | x::xs,y::ys,h=>by
  simp only [bO,aw] at h
  simp only [gY,bq,jX h.1,lW h.2]
end
mutual
theorem w9: ∀ {x y:D},same x y=true->oG x=oG y->x=y
 | .int _,y,h,e=>by cases y<;>simp [same] at h;simpa [oG] using e
 | .tup xs,y,h,e=>by
  cases y<;>simp [same] at h
  simp only [oG] at e
  rw [lX h e]
 | .non,_,h,_=>by simp [same] at h
 | .bl _,_,h,_=>by simp [same] at h
 | .str _,_,h,_=>by simp [same] at h
 | .lst _,_,h,_=>by simp [same] at h
 | .exc _,_,h,_=>by simp [same] at h
 | .fn _,_,h,_=>by simp [same] at h
theorem lX: ∀ {xs ys:List D},bO xs ys=true->gY xs=gY ys->xs=ys
 | [],[],_,_=>rfl
 | [],_::_,h,_=>by simp [bO] at h
 | _::_,[],h,_=>by simp [bO] at h
 | x::xs,y::ys,h,e=>by
  simp only [bO,aw] at h
  simp only [gY] at e
  obtain⟨e1,e2⟩:=List.append_inj e (jX h.1)
  rw [w9 h.1 e1,lX h.2 e2]
end
mutual
theorem xA: ∀ {x y:D},same x y=true->deq x y=(oG x==oG y)
 | .int i,y,h=>by
  cases y<;>simp [same] at h
  simp [deq,oG]
 | .tup xs,y,h=>by
  cases y<;>simp [same] at h
  simp only [deq,oG];exact lY h
 | .non,_,h=>by simp [same] at h
 | .bl _,_,h=>by simp [same] at h
 | .str _,_,h=>by simp [same] at h
 | .lst _,_,h=>by simp [same] at h
 | .exc _,_,h=>by simp [same] at h
 | .fn _,_,h=>by simp [same] at h
theorem lY: ∀ {xs ys:List D},bO xs ys=true->p9 xs ys=(gY xs==gY ys)
 | [],[],_=>rfl
 | [],_::_,h=>by simp [bO] at h
 | _::_,[],h=>by simp [bO] at h
 | x::xs,y::ys,h=>by
  simp only [bO,aw] at h
  simp only [p9,gY,xA h.1,lY h.2]
  rw [Bool.eq_iff_iff]
  simp only [aw,beq_iff_eq]
  constructor
  ·rintro⟨a,b⟩;rw [a,b]
  ·intro e;exact List.append_inj e (jX h.1)
end
mutual
theorem aCk: ∀ {x:D},same x x=true->hk (b9 x)=true
 | .int _,_=>by simp [b9,hk]
 | .tup xs,h=>by
  simp only [b9,hk];exact pA (by simpa [same] using h)
 | .non,h=>by simp [same] at h
 | .bl _,h=>by simp [same] at h
 | .str _,h=>by simp [same] at h
 | .lst _,h=>by simp [same] at h
 | .exc _,h=>by simp [same] at h
 | .fn _,h=>by simp [same] at h
theorem pA: ∀ {xs:List D},bO xs xs=true->hks (cH xs)=true
 | [],_=>by simp [cH,hks]
 | x::xs,h=>by
  simp only [bO,aw] at h
  simp [cH,hks,aCk h.1,pA h.2]
end
mutual
theorem qG: ∀ {x:D},same x x=true->plain x=true
 | .int _,_=>by simp [plain]
 | .tup xs,h=>by
  simp only [plain];exact iA (by simpa [same] using h)
 | .non,h=>by simp [same] at h
 | .bl _,h=>by simp [same] at h
 | .str _,h=>by simp [same] at h
 | .lst _,h=>by simp [same] at h
 | .exc _,h=>by simp [same] at h
 | .fn _,h=>by simp [same] at h
theorem iA: ∀ {xs:List D},bO xs xs=true->aY xs=true
 | [],_=>by simp [aY]
 | x::xs,h=>by
  simp only [bO,aw] at h
  simp [aY,qG h.1,iA h.2]
end
mutual
theorem aG4: ∀ {x y:D},same x y=true->same y y=true/\same x x=true/\dep y=dep x
 | .int _,y,h=>by cases y<;>simp [same] at h;simp [same,dep]
 | .tup xs,y,h=>by
  cases y<;>simp [same] at h
  simp only [same,dep]
  have:=tZ h
  exact⟨this.1,this.2.1,by rw [this.2.2]⟩
 | .non,_,h=>by simp [same] at h
 | .bl _,_,h=>by simp [same] at h
 | .str _,_,h=>by simp [same] at h
 | .lst _,_,h=>by simp [same] at h
 | .exc _,_,h=>by simp [same] at h
 | .fn _,_,h=>by simp [same] at h
theorem tZ: ∀ {xs ys:List D},bO xs ys=true->bO ys ys=true/\bO xs xs=true/\wB ys=wB xs
 | [],[],_=>⟨rfl,rfl,rfl⟩
 | [],_::_,h=>by simp [bO] at h
 | _::_,[],h=>by simp [bO] at h
 | x::xs,y::ys,h=>by
  simp only [bO,aw] at h
  have a:=aG4 h.1
  have b:=tZ h.2
  simp only [bO,wB,a.1,b.1,a.2.1,b.2.1,a.2.2,b.2.2,Bool.and_self,and_self]
end
mutual
theorem aCl: ∀ {x y z:D},same x y=true->same x z=true->same y z=true
 | .int _,y,z,h,k=>by cases y<;>simp [same] at h;cases z<;>simp [same] at k;rfl
 | .tup xs,y,z,h,k=>by
  cases y<;>simp [same] at h
  cases z<;>simp [same] at k
  simp only [same];exact pB h k
 | .non,_,_,h,_=>by simp [same] at h
 | .bl _,_,_,h,_=>by simp [same] at h
 | .str _,_,_,h,_=>by simp [same] at h
 | .lst _,_,_,h,_=>by simp [same] at h
 | .exc _,_,_,h,_=>by simp [same] at h
 | .fn _,_,_,h,_=>by simp [same] at h
theorem pB: ∀ {xs ys zs:List D},bO xs ys=true->bO xs zs=true->bO ys zs=true
 | [],[],[],_,_=>rfl
 | [],_::_,_,h,_=>by simp [bO] at h
 | [],[],_::_,_,h=>by simp [bO] at h
 | _::_,[],_,h,_=>by simp [bO] at h
 | _::_,_::_,[],_,h=>by simp [bO] at h
 | x::xs,y::ys,z::zs,h,k=>by
  simp only [bO,aw] at h k ⊢
  exact⟨aCl h.1 k.1,pB h.2 k.2⟩
end
section
variable {prog:Program} {w:World}
end
section
variable {O:KeyOrd} {key:Nat->O.α} {n:Nat} {cmp:Nat->Nat->(Bool->Shared->Prop)->Shared->Prop} {s:Shared}
end
theorem nG: ∀ a,mX a a=false
 | []=>rfl
 | a::r=>by simp [mX,nG r]
theorem qH: ∀ a b c,mX a b=true->mX b c=true->mX a c=true
 | [],[],_,h,_=>by cases h
 | [],_::_,[],_,h=>by cases h
 | [],_::_,_::_,_,_=>rfl
 | _::_,[],_,h,_=>by cases h
 | _::_,_::_,[],_,h=>by cases h
 | a::r,b::t,c::u,h1,h2=>by
  unfold mX at h1 h2 ⊢
  by_cases ab:a=b
  ·subst ab
   rw [if_pos rfl] at h1
   by_cases ac:a=c
   ·rw [if_pos ac] at h2 ⊢;exact qH r t u h1 h2
   ·rw [if_neg ac] at h2 ⊢;exact h2
  ·rw [if_neg ab] at h1
   have h1:=of_decide_eq_true h1
   by_cases bc:b=c
   ·subst bc;rw [if_neg ab];exact decide_eq_true h1
   ·rw [if_neg bc] at h2
    have h2:=of_decide_eq_true h2
    rw [if_neg (by omega)];exact decide_eq_true (by omega)
theorem xB: ∀ a b c,mX a c=true->mX a b=true\/mX b c=true
 | [],[],[],h=>by cases h
 | [],[],_::_,_=> .inr rfl
 | [],_::_,_,_=> .inl rfl
 | _::_,_,[],h=>by cases h
 | _::_,[],_::_,_=> .inr rfl
 | a::r,b::t,c::u,h=>by
  unfold mX at h ⊢
  by_cases ac:a=c
  ·subst ac
   rw [if_pos rfl] at h
   by_cases ab:a=b
   ·subst ab;rw [if_pos rfl,if_pos rfl];exact xB r t u h
   ·rw [if_neg ab,if_neg (Ne.symm ab)]
    rcases Int.lt_or_gt_of_ne ab with z | z
    ·exact .inl (decide_eq_true z)
    ·exact .inr (decide_eq_true z)
  ·rw [if_neg ac] at h
   have h:=of_decide_eq_true h
   by_cases ab:a=b
   ·subst ab;rw [if_neg ac];exact .inr (decide_eq_true h)
   ·rw [if_neg ab]
    by_cases z:a<b
    ·exact .inl (decide_eq_true z)
    ·rw [if_neg (by omega)];exact .inr (decide_eq_true (by omega))
theorem qI: ∀ a b,mX a b=false->mX b a=false->a=b
 | [],[],_,_=>rfl
 | [],_::_,h,_=>by cases h
 | _::_,[],_,h=>by cases h
 | a::r,b::t,h1,h2=>by
  unfold mX at h1 h2
  by_cases ab:a=b
  ·subst ab
   rw [if_pos rfl] at h1 h2
   rw [qI r t h1 h2]
  ·rw [if_neg ab] at h1
   rw [if_neg (Ne.symm ab)] at h2
   have h1:=of_decide_eq_false h1
   have h2:=of_decide_eq_false h2
   omega
section
variable {prog:Program} {w:World} {A:Around} {Ex:Value->Shared->Prop} {s:Shared}
mutual
theorem qJ {h h':Heap} (k: ∀ b o,o.cls= .type "tuple"->h.get? b=some o->h'.get? b=some o): ∀ {d:PyData} {v:Value} {as:List Addr},hk d=true->Reads h v d as->Reads h' v d as
 | _,_,_,_, .none=> .none
 | _,_,_,_, .int i t=> .int i t
 | _,_,_,hd, .tuple e c q r=> .tuple (k _ _ c e) c q (e9 k (by simpa [hk] using hd) r)
 | _,_,_,hd, .bool _=>by simp [hk] at hd
 | _,_,_,hd, .str _ _=>by simp [hk] at hd
 | _,_,_,hd, .list _ _ _ _=>by simp [hk] at hd
 | _,_,_,hd, .dict _ _ _ _ _=>by simp [hk] at hd
theorem e9 {h h':Heap} (k: ∀ b o,o.cls= .type "tuple"->h.get? b=some o->h'.get? b=some o): ∀ {ds:List PyData} {vs:List Value} {as:List Addr},hks ds=true->ReadsAll h vs ds as->ReadsAll h' vs ds as
 | _,_,_,_, .nil=> .nil
 | _,_,_,hd, .cons a b=>by
  simp only [hks,aw] at hd
  exact .cons (qJ k hd.1 a) (e9 k hd.2 b)
end
end
section
variable {prog:Program} {w:World} {A:Around} {I:Addr} {fp wr:List Addr} {G:Array GenState->Array GenState->Prop} {n:Nat} {P:Nat->Value->Prop} {St:Nat->Shared->Prop} {E:Value->Shared->Prop} {s:Shared} {R:_->Shared->Prop}
end
section
variable {X:Cx} {ad:Ad} {G:Hp}
end
section
variable {prog:Program} {w:World} {A:Around} {E:Value->Shared->Prop} {s:Shared}
noncomputable def ddS (acc:List Nat) (n:Nat):List Nat:=if n∈acc then acc else n::acc
noncomputable def dd (ns:List Nat):List Nat:=ns.foldl ddS []
end
section
variable {prog:Program} {w:World} {A:Around} {E:Value->Shared->Prop} {s:Shared}
end
section
variable {prog:Program} {w:World} {A:Around} {E:Value->Shared->Prop} {s:Shared}
end
section
variable {prog:Program} {w:World} {A:Around} {E:Value->Shared->Prop} {s:Shared}
end
section
variable {prog:Program} {w:World} {A:Around} {E:Value->Shared->Prop} {s:Shared}
end
section
variable {X:Cx} {ad:Ad} {a:Expr} {f:F} {p p2 pos pos2:Pos}
end
section
variable {prog:Program} {w:World} {A:Around} {E:Value->Shared->Prop} {R:Result->Shared->Prop} {I:Addr} {fp wr:List Addr} {G:Array GenState->Array GenState->Prop} {n:Nat} {P:Nat->Value->Prop} {St:Nat->Shared->Prop}
end
noncomputable def iv:Value->Int
 | .int n _=>n
 | _=>0
section
variable {X:Cx} {ad:Ad} {a:Expr} {f:F} {p p2 pos pos2:Pos}
end
section
variable {h h':Heap} {d:Addr} {o:Obj} {es:Array DictEntry} {ep:Nat}
theorem xC (ho:h.get? d=some o) (hd:o.data= .dict es ep) (hs:Heap.SameBut d h h') {a:Addr} {u:Obj} {vs:Array Value} {n:Nat} (hu:h.get? a=some u) (hq:u.data= .seq vs n):h'.get? a=some u:=by
 have ne:a≠d:=fun z=>by
  subst z
  rw [ho] at hu
  cases hu
  rw [hd] at hq
  cases hq
 exact(hs.2 a ne).trans hu
mutual
theorem rk1 (ho:h.get? d=some o) (hd:o.data= .dict es ep) (hs:Heap.SameBut d h h'): ∀ (k:PyData) (v:Value) (as:List Addr),hk k=true->Reads h v k as->Reads h' v k as
 | .none,v,as,_,r=>by cases r;exact .none
 | .int i,v,as,_,r=>by cases r;exact .int _ _
 | .tuple xs,v,as,hk',r=>by
  cases r with
  | tuple h1 h2 h3 h4=>exact .tuple (xC ho hd hs h1 h3) h2 h3 (rk2 ho hd hs xs _ _ (by simpa [hk] using hk') h4)
 | .bool _,_,_,h,_=>by simp [hk] at h
 | .str _,_,_,h,_=>by simp [hk] at h
 | .list _,_,_,h,_=>by simp [hk] at h
 | .dict _,_,_,h,_=>by simp [hk] at h
theorem rk2 (ho:h.get? d=some o) (hd:o.data= .dict es ep) (hs:Heap.SameBut d h h'): ∀ (ks:List PyData) (vs:List Value) (as:List Addr),hks ks=true->ReadsAll h vs ks as->ReadsAll h' vs ks as
 | [],_,_,_,r=>by cases r;exact .nil
 | k::ks,_,_,hk',r=>by
  rw [hks,aw] at hk'
  cases r with
  | cons r1 r2=>exact .cons (rk1 ho hd hs k _ _ hk'.1 r1) (rk2 ho hd hs ks _ _ hk'.2 r2)
end
end
mutual
theorem aNj: ∀ x:PyData,hk x=true->PyData.eqv x x=true
 | .none,_=>by simp [PyData.eqv]
 | .int i,_=>by simp [PyData.eqv]
 | .tuple xs,h=>by
  rw [PyData.eqv]
  exact aG5 xs (by simpa [hk] using h)
 | .bool _,h=>by simp [hk] at h
 | .str _,h=>by simp [hk] at h
 | .list _,h=>by simp [hk] at h
 | .dict _,h=>by simp [hk] at h
theorem aG5: ∀ xs:List PyData,hks xs=true->PyData.eqvAll xs xs=true
 | [],_=>by simp [PyData.eqvAll]
 | x::xs,h=>by
  rw [hks,aw] at h
  rw [PyData.eqvAll,aNj x h.1,aG5 xs h.2]
  rfl
end
noncomputable instance decPy:DecidableEq PyData:=fun a b=>Classical.propDecidable (a=b)
mutual
theorem t0: ∀ d:D,hkD d=true->plain d=true
 | .non,_=>by simp [plain]
 | .int _,_=>by simp [plain]
 | .tup xs,h=>by simpa [plain] using i7 xs (by simpa [hkD] using h)
 | .bl _,h=>by simp [hkD] at h
 | .str _,h=>by simp [hkD] at h
 | .lst _,h=>by simp [hkD] at h
 | .exc _,h=>by simp [hkD] at h
 | .fn _,h=>by simp [hkD] at h
theorem i7: ∀ ds:List D,yQ ds=true->aY ds=true
 | [],_=>by simp [aY]
 | d::ds,h=>by
  have h':hkD d=true/\yQ ds=true:=by simpa [yQ] using h
  simp [aY,t0 d h'.1,i7 ds h'.2]
end
mutual
theorem aG6: ∀ d:D,hkD d=true->hk (b9 d)=true/\hsh (b9 d)=hD d
 | .non,_=>by simp [b9,hk,hsh,hD]
 | .int _,_=>by simp [b9,hk,hsh,hD]
 | .tup xs,h=>by
  have:=t6 xs (by simpa [hkD] using h)
  simp [b9,hk,hsh,hD,this.1,this.2]
 | .bl _,h=>by simp [hkD] at h
 | .str _,h=>by simp [hkD] at h
 | .lst _,h=>by simp [hkD] at h
 | .exc _,h=>by simp [hkD] at h
 | .fn _,h=>by simp [hkD] at h
theorem t6: ∀ ds:List D,yQ ds=true->hks (cH ds)=true/\aG2 (cH ds)=hDs ds
 | [],_=>by simp [cH,hks,aG2,hDs]
 | d::ds,h=>by
  have h':hkD d=true/\yQ ds=true:=by simpa [yQ] using h
  have h1:=aG6 d h'.1
  have h2:=t6 ds h'.2
  simp [cH,hks,aG2,hDs,h1.1,h1.2,h2.1,h2.2]
end
noncomputable def y3 (p:D×D) (x:Int×Addr×Value):PyData×Addr×Value:=(b9 p.1,x.2.1,x.2.2)
section
variable {K:PySem.W.Frag} {ad:Ad} {G:Hp} {prog:Program} {w:World}
end
section
variable {X:Cx} {ad:Ad} {Z:(St->Nat->Hp->Prop)->Prop} {pins:List (Addr×Obj)} {s:Shared} {σ:St} {H G G₀:Hp} {ρ:Rho} {D':Ends} {E:St->Nat->Hp->Prop} {pos pos':Pos} {e:Expr} {f:F} {g h:FS} {st:Stmt} {sts:List Stmt}
end
section
variable {X:Cx} {ad:Ad} {Z:(St->Nat->Hp->Prop)->Prop} {pins:List (Addr×Obj)} {s:Shared} {σ:St} {H G G₀:Hp} {ρ:Rho} {D':Ends} {E:St->Nat->Hp->Prop} {pos pos':Pos} {e:Expr} {f:F} {g h:FS} {st:Stmt} {sts:List Stmt}
theorem aG7 {i:Nat} {x:Str} {p tp:Pos} {kx:Expr} {fk:F} (hu:X.A.units+62<cLine) (hN:X.N[i]? =some x) (hv:Vis X.env.scope x) (hd:(x==("__debug__":Str))=false) (hcd:(x==("__classdict__":Str))=false) (he:ME X ad e f) (hk:ME X ad kx fk)
  (ha: ∀ v,assign (.Subscript (.Name x p) kx tp) X.env v=(do
   let ov<-holding [v] (eval (.Name x p) X.env)
   let iv<-holding [v,ov] (eval kx X.env)
   standAt tp
   holding [v,ov,iv] (setItem ov iv v)
   release [v,ov,iv] [])) (hs:swapsWithSole [.Subscript (.Name x p) kx tp] e pos.line X.env=pure false) (hw:swappedStores [.Subscript (.Name x p) kx tp] e X.env=pure none):
  MS X ad Z (.Assign [.Subscript (.Name x p) kx tp] e pos) (aJ4 i fk f):=by
 refine PS.imp (yL he (aE9 (aV hN hv hd hcd) hk v9 ha) hs hw rfl) ?_
 rintro D' σ H ⟨G₀,G,ρ,E,S,hx,hr⟩
 unfold aJ4 at hr
 refine eZ S hx hr fun v d G1 H1 st r k=> ?_
 cases q:ρ[i]? with
 | none=>rw [q] at k;exact k.elim
 | some sl=>
  rw [q] at k
  cases sl with
  | no=>exact k.elim
  | sh d=>exact k.elim
  | sd d=>exact k.elim
  | rk _ _=>exact k.elim
  | ow xs=>
   obtain⟨a,vs,h1,h2,h3,h4⟩:=(S.step st).sl.ow q
   refine⟨.ref a,h1, ?_⟩
   refine eZ (S.step st) hx k fun v2 y G2 H2 st2 r2 k2=> ?_
   obtain⟨g2,h2'⟩:=cL st2 h2 h3
   cases y<;>try exact ba k2
   rename_i j
   unfold Rep at r2;subst r2
   have k':OKo X ad G₀ (match ixD xs.length j with | some m=> .nx (ρ.set i (.ow (xs.set m d))) | none=> .rt .bad) D' E:=k2
   cases q2:ixD xs.length j with
   | none=>rw [q2] at k';exact k'.elim
   | some m=>
    rw [q2] at k'
    have r4:=h4.mono st2.sg
    refine⟨a,vs,j,m,rfl,rfl,h2',by rw [h4.length, <-zE];exact q2, ?_⟩
    exact k' σ G2 _ (((S.step st).step st2).upd q h1 g2 (aE.set (r.mono st2.sg) m r4))
  | dc kvs=>exact k.elim
theorem RK.bool_share {a:Addr} {vs:List V} {r:R} {Q:VK} {E:Nat->Hp->Prop} (hb:(∃ b,r= .ok (.bl b))\/r= .bad) (g:G a=none) (k:RK X.K ad G H r Q E):RK X.K ad (upd G a (.lst vs)) H r Q E:=by
 rcases hb with ⟨b,rfl⟩ | rfl
 ·intro v G1 H1 st q
  have q':v= .bl b:=by unfold Rep at q;exact q
  subst q'
  refine k (.bl b) (fun c=>if c=a then none else G1 c) H1 ⟨fun c u e=> ?_,fun c u e=> ?_,st.sh,fun c e1 e2=> ?_⟩ aZ
  ·have ne:c≠a:=aK e g
   show(if c=a then none else G1 c)=some u
   rw [if_neg ne]
   exact st.sg c u (by rw [aA ne];exact e)
  ·have e':(if c=a then none else G1 c)=some u:=e
   by_cases z:c=a
   ·rw [if_pos z] at e';cases e'
   ·rw [if_neg z] at e';exact st.gh c u e'
  ·have e':(if c=a then none else G1 c)≠none:=e2
   by_cases z:c=a
   ·rw [if_pos z] at e';exact absurd rfl e'
   ·rw [if_neg z] at e';exact st.nw c (by rw [aA z];exact e1) e'
 ·exact k
theorem nH {op:CmpOp} {x y:D} {v w:V} {u z:Value} {Q:VK} {E:Nat->Hp->Prop} (hu:X.A.units+62<cLine) (I:Inv X pins σ H s) (hG:Same G H) (qx:Seq X ad G H x v) (qy:Seq X ad G H y w) (ru:aP v u) (rz:aP w z)
  (k:RK X.K ad G H (fX op x y) Q E):wpAny (model X.prog X.w) X.A (compareOp op u z) (EP X pins σ Q) X.xe s:=by
 have hb:=sB (op:=op) (x:=x) (y:=y)
 -- the left one is shared for the time
 have sh: ∀ {G:Hp} {a:Addr} {vs:List V} {ds:List D},Same G H->H a=some (.lst vs)->aE X.K ad G ds vs->Same (upd G a (.lst vs)) H/\Rep X.K ad (upd G a (.lst vs)) (.lst ds) (.ref a):=fun {G a vs ds} hG h2 h3=>by
  have st:G a=none\/G a=some (.lst vs):=by
   cases q:G a with
   | none=>exact .inl rfl
   | some o=>rw [hG a o q] at h2;exact .inr h2
  have le:Same G (upd G a (.lst vs)):=fun b o e=>by
   by_cases zb:b=a
   ·subst zb
    rcases st with q | q
    ·rw [q] at e;cases e
    ·rw [aC, <-q];exact e
   ·rw [aA zb];exact e
  refine⟨fun b o e=> ?_, ?_⟩
  ·by_cases zb:b=a
   ·subst zb;rw [aC] at e;cases e;exact h2
   ·rw [aA zb] at e;exact hG b o e
  ·unfold Rep
   exact⟨a,vs,rfl,SqL.of aC,h3.mono le⟩
 have mo: ∀ {G:Hp} {a:Addr} {vs:List V},G a=none->Same G (upd G a (.lst vs)):=fun g=>Same.upd_new g
 have right: ∀ {G:Hp},Same G H->Rep X.K ad G x v->Seq X ad G H y w->RK X.K ad G H (fX op x y) Q E->wpAny (model X.prog X.w) X.A (compareOp op u z) (EP X pins σ Q) X.xe s:=fun {G} hG rx qy k=>by
  rcases qy with ry | ⟨a,vs,ds,rfl,rfl,g1,h2,h3⟩
  ·exact dU op hu pins s σ H G x y v w u z Q E I hG rx ry ru rz k
  ·obtain⟨s1,s2⟩:=sh hG h2 h3
   exact dU op hu pins s σ H _ x _ v _ u z Q E I s1 (rx.mono (mo g1)) s2 ru rz (k.bool_share hb g1)
 rcases qx with rx | ⟨a,vs,ds,rfl,rfl,g1,h2,h3⟩
 ·exact right hG rx qy k
 ·obtain⟨s1,s2⟩:=sh hG h2 h3
  refine right s1 s2 ?_ (k.bool_share hb g1)
  rcases qy with ry | ⟨a',vs',ds',rfl,rfl,g1',h2',h3'⟩
  ·exact .inl (ry.mono (mo g1))
  ·by_cases za:a'=a
   ·subst za
    rw [h2] at h2'
    cases h2'
    refine .inl ?_
    unfold Rep
    exact⟨a',vs,rfl,SqL.of aC,h3'.mono (mo g1)⟩
   ·exact .inr ⟨a',vs',ds',rfl,rfl,by rw [aA za];exact g1',h2',h3'.mono (mo g1)⟩
theorem t7 {op:CmpOp} {a b:Expr} {f g:F} {Q:VK} {E:Nat->Hp->Prop} (hu:X.A.units+62<cLine) (ha:MLk X ad a f) (hb:MLk X ad b g) (I:Inv X pins σ H s) (hG:Same G H) (hS:SL X.K ad G H ρ σ) (hx:XP X ad σ E) (hr:RK X.K ad G H (dQ op f g ρ) Q E):
  wpAny (model X.prog X.w) X.A (eval a X.env) (fun u s1=>wpAny (model X.prog X.w) X.A (eval b X.env) (fun z s2=>wpAny (model X.prog X.w) X.A (compareOp op u z) (EP X pins σ Q) X.xe s2) X.xe s1) X.xe s:=by
 refine L2.thn (ha pins s σ H G ρ (fun x=>(g ρ).bind fun y=>fX op x y) Q E I hG hS hx hr) fun u s1 hz1=> ?_
 obtain⟨v,d1,G1,H1,I1,r1,st1,q1,k1⟩:=hz1
 refine L2.thn (hb pins s1 σ H1 G1 ρ (fun y=>fX op d1 y) Q E I1 st1.gh (hS.step st1) hx k1) fun z s2 hz2=> ?_
 obtain⟨w,d2,G2,H2,I2,r2,st2,q2,k2⟩:=hz2
 exact nH hu I2 st2.gh (Seq.step q1 st2) q2 r1 r2 k2
theorem t9 {op:CmpOp} {a b:Expr} {f g:F} (hu:X.A.units+62<cLine) (ha:MLk X ad a f) (hb:MLk X ad b g) (hm:behindInMarks op b=false):ME X ad (.Compare a [op] [b] pos) (dQ op f g):=by
 intro pins s σ H Q I ⟨G,ρ,E,hG,hS,hx,hr⟩
 exact wpAny_Compare1 (t7 hu ha hb I hG hS hx hr) hm
theorem jY {op:CmpOp} {a b:Expr} {F':F} (hm:behindInMarks op b=false)
  (go: ∀ {pins:List (Addr×Obj)} {s:Shared} {σ:St} {H G:Hp} {ρ:Rho} {Q:VK} {E:Nat->Hp->Prop},Inv X pins σ H s->Same G H->SL X.K ad G H ρ σ->XP X ad σ E->RK X.K ad G H (F' ρ) Q E->
   wpAny (model X.prog X.w) X.A (eval a X.env) (fun u s1=>wpAny (model X.prog X.w) X.A (eval b X.env) (fun z s2=>wpAny (model X.prog X.w) X.A (compareOp op u z) (EP X pins σ Q) X.xe s2) X.xe s1) X.xe s):MT X ad (.Compare a [op] [b] pos) F':=by
 intro pins s σ H Q I ⟨G,ρ,E,hG,hS,hx,ht,hr⟩
 refine wpAny_isTrue_Compare1 (L2.thn (go I hG hS hx hr) fun v s1 h1=>L2.thn h1 fun u s2 h2=>L2.thn h2 fun c s3 hz=> ?_) hm
 obtain⟨x,H1,I1,r1,k,e,q⟩:=hz
 subst e
 cases r1
 exact wpAny_truthy_bool ⟨H1,I1,q⟩
theorem uA {op:CmpOp} {a b:Expr} {f g:F} (hu:X.A.units+62<cLine) (ha:MLk X ad a f) (hb:MLk X ad b g) (hm:behindInMarks op b=false):MT X ad (.Compare a [op] [b] pos) (dQ op f g):=
 jY hm fun I hG hS hx hr=>t7 hu ha hb I hG hS hx hr
theorem zO {op:CmpOp} {a:Expr} {f:F} {i:Nat} {x:Str} {p:Pos} {Q:VK} {E:Nat->Hp->Prop} (hN:X.N[i]? =some x) (hv:Vis X.env.scope x) (hd:(x==("__debug__":Str))=false) (hcd:(x==("__classdict__":Str))=false) (hu:X.A.units+62<cLine) (ha:MLk X ad a f) (I:Inv X pins σ H s) (hG:Same G H) (hS:SL X.K ad G H ρ σ) (hx:XP X ad σ E) (hr:RK X.K ad G H (aIz op f i ρ) Q E):
  wpAny (model X.prog X.w) X.A (eval a X.env) (fun u s1=>wpAny (model X.prog X.w) X.A (eval (.Name x p) X.env) (fun z s2=>wpAny (model X.prog X.w) X.A (compareOp op u z) (EP X pins σ Q) X.xe s2) X.xe s1) X.xe s:=by
 refine L2.thn (ha pins s σ H G ρ (fun x=>match ρ[i]? with
  | some (.sh y)=>fX op x y
  | some (.ow ys)=>fX op x (.lst ys)
  | _=> .bad) Q E I hG hS hx hr) fun u s1 hz1=> ?_
 obtain⟨v,d1,G1,H1,I1,r1,st1,q1,k1⟩:=hz1
 have S1:=hS.step st1
 cases e:ρ[i]? with
 | none=>rw [e] at k1;exact k1.elim
 | some sl=>
  rw [e] at k1
  have look: ∀ (w:V),σ[i]? =some (some w)->(∀ z s2,Inv X pins σ H1 s2->aP w z->wpAny (model X.prog X.w) X.A (compareOp op u z) (EP X pins σ Q) X.xe s2)->
    wpAny (model X.prog X.w) X.A (eval (.Name x p) X.env) (fun z s2=>wpAny (model X.prog X.w) X.A (compareOp op u z) (EP X pins σ Q) X.xe s2) X.xe s1:=fun w h1 h=>by
   refine L2.thn (aV hN hv hd hcd pins s1 σ H1 (fun v' H'=>v'=w/\H'=H1) I1 ⟨w,h1,rfl,rfl⟩) fun z s2 hz_=> ?_
   obtain⟨v',H',I2,r2,e1,e2⟩:=hz_
   subst e1;subst e2
   exact h z s2 I2 r2
  cases sl with
  | no=>exact k1.elim
  | rk _ _=>exact k1.elim
  | sh y=>
   obtain⟨w,h1,h2⟩:=S1.sh e
   exact look w h1 fun z s2 I2 r2=>nH hu I2 st1.gh q1 (.inl h2) r1 r2 k1
  | ow ys=>
   obtain⟨b,vs,h1,h2,h3,h4⟩:=S1.ow e
   exact look _ h1 fun z s2 I2 r2=>nH hu I2 st1.gh q1 (.inr ⟨b,vs,ys,rfl,rfl,h2,h3,h4⟩) r1 r2 k1
  | dc kvs=>exact k1.elim
  | sd kvs=>exact k1.elim
theorem aG8 {op:CmpOp} {a:Expr} {f:F} {i:Nat} {x:Str} {p:Pos} (hN:X.N[i]? =some x) (hv:Vis X.env.scope x) (hd:(x==("__debug__":Str))=false) (hcd:(x==("__classdict__":Str))=false) (hu:X.A.units+62<cLine) (ha:MLk X ad a f) (hm:behindInMarks op (.Name x p)=false):ME X ad (.Compare a [op] [.Name x p] pos) (aIz op f i):=by
 intro pins s σ H Q I ⟨G,ρ,E,hG,hS,hx,hr⟩
 exact wpAny_Compare1 (zO hN hv hd hcd hu ha I hG hS hx hr) hm
theorem aG9 {op:CmpOp} {a:Expr} {f:F} {i:Nat} {x:Str} {p:Pos} (hN:X.N[i]? =some x) (hv:Vis X.env.scope x) (hd:(x==("__debug__":Str))=false) (hcd:(x==("__classdict__":Str))=false) (hu:X.A.units+62<cLine) (ha:MLk X ad a f) (hm:behindInMarks op (.Name x p)=false):MT X ad (.Compare a [op] [.Name x p] pos) (aIz op f i):=
 jY hm fun I hG hS hx hr=>zO hN hv hd hcd hu ha I hG hS hx hr
end
end SK
namespace L2
open PySem PySem.Spec PyProof.Rows
section
variable {κ:Type} [DecidableEq κ]
noncomputable def jZ (kvs:List (κ×V)) (k:κ):Option V:=(kvs.find? fun kv=>decide (kv.1=k)).map (·.2)
noncomputable def putK (kvs:List (κ×V)) (k:κ) (v:V):List (κ×V):=
 if(kvs.any fun kv=>decide (kv.1=k))=true then kvs.map (fun kv=>if kv.1=k then(kv.1,v) else kv) else kvs++[(k,v)]
noncomputable def dropK (kvs:List (κ×V)) (k:κ):List (κ×V):=kvs.filter fun kv=>decide (kv.1≠k)
theorem xD {k:κ}:jZ ([]:List (κ×V)) k=none:=rfl
theorem gB {p:κ×V} {r:List (κ×V)} {k:κ} (e:p.1=k):jZ (p::r) k=some p.2:=by simp [jZ,List.find?_cons,e]
theorem gC {p:κ×V} {r:List (κ×V)} {k:κ} (e: ¬ p.1=k):jZ (p::r) k=jZ r k:=by simp [jZ,List.find?_cons,e]
theorem pC (k:κ): ∀ kvs:List (κ×V),(kvs.any fun kv=>decide (kv.1=k))=(jZ kvs k).isSome
 | []=>rfl
 | p::r=>by
  rw [List.any_cons]
  by_cases e:p.1=k
  ·simp only [gB e,decide_eq_true e,Bool.true_or,Option.isSome_some]
  ·rw [gC e,decide_eq_false e,Bool.false_or];exact pC k r
theorem iB (kvs:List (κ×V)) (k:κ) (v:V):(putK kvs k v).length<=kvs.length+1:=by
 unfold putK
 split
 ·rw [aq];omega
 ·rw [bq,br,List.length_nil];omega
theorem jE.isSome_eq {o:Option V} {u:Option Value} (r:jE o u):o.isSome=u.isSome:=by
 cases o with
 | none=>cases u with
  | none=>rfl
  | some _=>exact(show False from r).elim
 | some _=>cases u with
  | none=>exact(show False from r).elim
  | some _=>rfl
theorem jE.getD {o:Option V} {u:Option Value} {d:V} {d':Value} (r:jE o u) (rd:aP d d'):aP (o.getD d) (u.getD d'):=by
 cases o with
 | none=>cases u with
  | none=>exact rd
  | some _=>exact(show False from r).elim
 | some _=>cases u with
  | none=>exact(show False from r).elim
  | some _=>exact r
theorem KV.val {kvs:List (κ×V)} {vs:List (κ×Value)} (r:KV kvs vs) (k:κ):jE (jZ kvs k) (valueAt vs k):=by
 unfold KV at r
 induction r with
 | nil=>exact True.intro
 | @cons p q ps qs h t ih=>
  obtain⟨h1,h2⟩:=h
  by_cases e:p.1=k
  ·have e':q.1=k:=h1.symm.trans e
   have b:valueAt (q::qs) k=some q.2:=by simp [valueAt,List.find?_cons,e']
   rw [gB e,b];exact h2
  ·have e': ¬ q.1=k:=fun z=>e (h1.trans z)
   have b:valueAt (q::qs) k=valueAt qs k:=by simp [valueAt,List.find?_cons,e']
   rw [gC e,b];exact ih
theorem KV.any {kvs:List (κ×V)} {vs:List (κ×Value)} (r:KV kvs vs) (k:κ):(kvs.any fun kv=>decide (kv.1=k))=vs.any fun kv=>decide (kv.1=k):=by
 unfold KV at r
 induction r with
 | nil=>rfl
 | cons h t ih=>rw [List.any_cons,List.any_cons,ih,h.1]
theorem KV.repl {kvs:List (κ×V)} {vs:List (κ×Value)} (r:KV kvs vs) (k:κ) {y:V} {u:Value} (ry:aP y u):
  KV (kvs.map fun kv=>if kv.1=k then(kv.1,y) else kv) (vs.map fun kv=>if kv.1=k then(kv.1,u) else kv):=by
 unfold KV at r ⊢
 induction r with
 | nil=>exact .nil
 | @cons p q ps qs h t ih=>
  rw [List.map_cons,List.map_cons]
  refine .cons ?_ ih
  obtain⟨h1,h2⟩:=h
  by_cases e:p.1=k
  ·rw [if_pos e,if_pos (h1.symm.trans e)];exact⟨h1,ry⟩
  ·rw [if_neg e,if_neg (fun z=>e (h1.trans z))];exact⟨h1,h2⟩
theorem KV.put {kvs:List (κ×V)} {vs:List (κ×Value)} (r:KV kvs vs) (k:κ) {y:V} {u:Value} (ry:aP y u):KV (putK kvs k y) (stored vs k u):=by
 unfold putK stored
 rw [r.any k]
 by_cases e:(vs.any fun kv=>decide (kv.1=k))=true
 ·rw [if_pos e,if_pos e];exact r.repl k ry
 ·rw [if_neg e,if_neg e];exact Paired.snoc r ⟨rfl,ry⟩
theorem KV.drop {kvs:List (κ×V)} {vs:List (κ×Value)} (r:KV kvs vs) (k:κ):KV (dropK kvs k) (without vs k):=by
 unfold KV at r ⊢
 unfold dropK without
 induction r with
 | nil=>exact .nil
 | @cons p q ps qs h t ih=>
  obtain⟨h1,h2⟩:=h
  rw [List.filter_cons,List.filter_cons]
  by_cases e:p.1=k
  ·have a: ¬ decide (p.1≠k)=true:=by simp [e]
   have b: ¬ decide (q.1≠k)=true:=by simp [h1.symm.trans e]
   rw [if_neg a,if_neg b];exact ih
  ·have e': ¬ q.1=k:=fun z=>e (h1.trans z)
   have a:decide (p.1≠k)=true:=by simp [e]
   have b:decide (q.1≠k)=true:=by simp [e']
   rw [if_pos a,if_pos b];exact .cons ⟨h1,h2⟩ ih
theorem KV.keys {kvs:List (κ×V)} {vs:List (κ×Value)} (r:KV kvs vs):kvs.map (·.1)=vs.map (·.1):=by
 unfold KV at r
 induction r with
 | nil=>rfl
 | cons h t ih=>rw [List.map_cons,List.map_cons,ih,h.1]
theorem KV.length {kvs:List (κ×V)} {vs:List (κ×Value)} (r:KV kvs vs):kvs.length=vs.length:=Paired.length r
theorem xE (kvs:List (κ×V)) (k:κ):(dropK kvs k).length<=kvs.length:=List.length_filter_le _ _
end
theorem nI {P:Program} {w:World} {k:Key} {u:Value} (r:aP (kV k) u):(bJ P w).is k u=true:=by
 cases k with
 | inl i=>obtain⟨t,e⟩:=(show ∃ t,u=Value.int i t from r);subst e;exact mJ P w i t
 | inr x=>obtain⟨t,e⟩:=(show ∃ t,u=Value.str x t from r);subst e;exact mK P w x t
theorem lZ {P:Program} {w:World}: ∀ {ks:List Key} {us:List Value},aS (ks.map kV) us->ItemsAre (bJ P w) ks us
 | [],_,r=>by rw [List.map_nil] at r;cases r;exact .nil
 | k::ks,_,r=>by
  rw [List.map_cons] at r
  cases r with
  | cons h t=>exact .cons (nI h) (lZ t)
noncomputable abbrev KT (H:Hp):List (List Key×V)->List (List Key×Addr×Value)->Prop:=Paired fun p q=>p.1=q.1/\H q.2.1=some (.tup (p.1.map kV))/\aP p.2 q.2.2
theorem KT.val {H:Hp} {kvs:List (List Key×V)} {xs:List (List Key×Addr×Value)} (r:KT H kvs xs) (k:List Key):jE (jZ kvs k) ((atKey xs k).map (·.2)):=by
 induction r with
 | nil=>exact True.intro
 | @cons p q ps qs h t ih=>
  obtain⟨h1,_,h2⟩:=h
  by_cases e:p.1=k
  ·have e':q.1=k:=h1.symm.trans e
   have b:atKey (q::qs) k=some q.2:=by simp [atKey,List.find?_cons,e']
   rw [gB e,b];exact h2
  ·have e': ¬ q.1=k:=fun z=>e (h1.trans z)
   have b:atKey (q::qs) k=atKey qs k:=by simp [atKey,List.find?_cons,e']
   rw [gC e,b];exact ih
theorem KT.repl {H:Hp} {kvs:List (List Key×V)} {xs:List (List Key×Addr×Value)} (r:KT H kvs xs) (k:List Key) {y:V} {u:Value} (ry:aP y u):
  KT H (kvs.map fun kv=>if kv.1=k then(kv.1,y) else kv) (xs.map (putAt k u)):=by
 induction r with
 | nil=>exact .nil
 | @cons p q ps qs h t ih=>
  rw [List.map_cons,List.map_cons]
  refine .cons ?_ ih
  obtain⟨h1,h2,h3⟩:=h
  unfold putAt
  by_cases e:p.1=k
  ·rw [if_pos e,if_pos (h1.symm.trans e)];exact⟨h1,h2,ry⟩
  ·rw [if_neg e,if_neg (fun z=>e (h1.trans z))];exact⟨h1,h2,h3⟩
theorem KT.put {H:Hp} {kvs:List (List Key×V)} {xs:List (List Key×Addr×Value)} (r:KT H kvs xs) (k:List Key) {b:Addr} {y:V} {u:Value} (hb:H b=some (.tup (k.map kV))) (ry:aP y u):
  KT H (putK kvs k y) (storedH xs k b u):=by
 have e:(kvs.any fun kv=>decide (kv.1=k))=(atKey xs k).isSome:=by
  rw [pC,(r.val k).isSome_eq,Option.isSome_map]
 unfold putK storedH
 rw [e]
 by_cases q:(atKey xs k).isSome=true
 ·rw [if_pos q,if_pos q];exact r.repl k ry
 ·rw [if_neg q,if_neg q];exact Paired.snoc r ⟨rfl,hb,ry⟩
theorem KT.keeps {H H':Hp} {kvs:List (List Key×V)} {xs:List (List Key×Addr×Value)} (r:KT H kvs xs) (ht: ∀ b ys,H b=some (.tup ys)->H' b=some (.tup ys)):KT H' kvs xs:=
 Paired.mapP r fun _ _ z=>⟨z.1,ht _ _ z.2.1,z.2.2⟩
section
variable {P:Program} {w:World} {H:Hp} {h:Heap} {a:Addr}
theorem aHa {u:HO} (ok:HOk P w H h) (e:Rd H a u):ObjOk P w H h a u:=e.ok ok
theorem nJ {kvs:List (Key×V)} (ok:HOk P w H h) (e:Rd H a (.dK kvs)):kvs.length<=sizeLine/\(a==sysModules)=false/\ ∃ vs,KV kvs vs/\h.DictOf (bJ P w) a vs:=
 show ObjOk P w H h a (.dK kvs) from aHa ok e
theorem aCm {kvs:List (Key×V)} (ok:HOk P w H h) (e:H a=some (.dK kvs)):kvs.length<=sizeLine/\(a==sysModules)=false/\ ∃ vs,KV kvs vs/\h.DictOf (bJ P w) a vs:=nJ ok (.inl e)
theorem i8 {ks:List Key} (ok:HOk P w H h) (e:H a=some (.tup (ks.map kV))):(tupleKind (bJ P w)).is h ks a:=by
 obtain⟨_,its,r,⟨o,h1,h2,n,h3⟩,_⟩:=(show ObjOk P w H h a (.tup (ks.map kV)) from ok a _ e)
 exact⟨o,its.toArray,n,h1,h2,h3,by simpa using lZ r⟩
theorem nL {kvs:List (List Key×V)} (ok:HOk P w H h) (e:Rd H a (.dT kvs)):kvs.length<=sizeLine/\(a==sysModules)=false/\
  ∃ xs,KT H kvs xs/\h.DictOfH (tupleKind (bJ P w)) a xs:=by
 obtain⟨z,y,xs,r,o,es,ep,h1,h2,h3,h4,h5⟩:=(show ObjOk P w H h a (.dT kvs) from aHa ok e)
 refine⟨z,y,xs,r,o,es,ep,h1,h2,h3,h4,fun x hx=> ?_,h5⟩
 have all: ∀ {l:List (List Key×V)} {m:List (List Key×Addr×Value)},KT H l m-> ∀ x∈m,(tupleKind (bJ P w)).is h x.1 x.2.1:=by
  intro l m q
  induction q with
  | nil=>intro x hx;exact nomatch hx
  | @cons p q ps qs hq t ih=>
   intro x hx
   rcases av.mp hx with e | hx
   ·subst e
    exact i8 ok (by rw [<-hq.1];exact hq.2.1)
   ·exact ih x hx
 exact all r x hx
theorem aKl {kvs:List (List Key×V)} (ok:HOk P w H h) (e:H a=some (.dT kvs)):kvs.length<=sizeLine/\(a==sysModules)=false/\
  ∃ xs,KT H kvs xs/\h.DictOfH (tupleKind (bJ P w)) a xs:=nL ok (.inl e)
end
def nM (H:Hp) (a:Addr) (y:V) (r:Option V):Prop:=
 (∃ kvs k,Rd H a (.dK kvs)/\y=kV k/\r=jZ kvs k)\/ ∃ kvs k b,Rd H a (.dT kvs)/\y= .ref b/\H b=some (.tup (k.map kV))/\r=jZ kvs k
def aHb (H:Hp) (a:Addr) (y v:V) (H':Hp):Prop:=
 (∃ kvs k,H a=some (.dK kvs)/\y=kV k/\kvs.length<sizeLine/\H'=upd H a (.dK (putK kvs k v)))\/
 ∃ kvs k b,H a=some (.dT kvs)/\y= .ref b/\H b=some (.tup (k.map kV))/\kvs.length<sizeLine/\H'=upd H a (.dT (putK kvs k v))
theorem nM.k {H:Hp} {a:Addr} {kvs:List (Key×V)} {k:Key} (e:H a=some (.dK kvs)):nM H a (kV k) (jZ kvs k):= .inl ⟨kvs,k, .inl e,rfl,rfl⟩
theorem aHb.k {H:Hp} {a:Addr} {kvs:List (Key×V)} {k:Key} {v:V} (e:H a=some (.dK kvs)) (hl:kvs.length<sizeLine):aHb H a (kV k) v (upd H a (.dK (putK kvs k v))):= .inl ⟨kvs,k,e,rfl,hl,rfl⟩
section
variable {X:Cx} {pins:List (Addr×Obj)} {σ:St} {H:Hp} {s:Shared} {a:Addr} {y v:V} {u r:Value} {o:Option V} {A:Around} {E:Value->Shared->Prop}
theorem Inv.bigK (I:Inv X pins σ H s):sysModules<s.heap.objs.size:=by
 have h:mainGlobals<s.heap.objs.size:=(I.mod.glob.keeps I.bk).lt
 exact Nat.lt_trans (by decide) h
theorem uB {Q:Value->Shared->Prop} (hu:A.units+1<cLine) (I:Inv X pins σ H s) (g:nM H a y (some v)) (ry:aP y u) (h: ∀ w' s',Inv X pins σ H s'->aP v w'->Q w' s'):
  wpAny (model X.prog X.w) A (getItem (.ref a) u) Q E s:=by
 rcases g with ⟨kvs,k,e,ey,l⟩ | ⟨kvs,k,b,e,ey,eb,l⟩
 ·subst ey
  obtain⟨z,hd,vs,rel,dd⟩:=nJ I.hok e
  obtain⟨w',hw,rw'⟩:=jE.some_of (v:=v) (o:=valueAt vs k) (by rw [l];exact rel.val k)
  exact wpAny_getItem_of (nI ry) dd.mapOf hw (h w' _ (I.tok _) rw')
 ·subst ey
  cases (show u=Value.ref b from ry)
  obtain⟨z,hd,xs,rel,dd⟩:=nL I.hok e
  obtain⟨w',hw,rw'⟩:=jE.some_of (v:=v) (o:=(atKey xs k).map (·.2)) (by rw [l];exact rel.val k)
  obtain⟨p,hp,hp2⟩:=zMd hw
  refine wpAny_getItem_heap (tupleKind_room_in1 hu) (i8 I.hok eb) dd hp ?_
  rw [hp2]
  exact h w' _ (I.tok _) rw'
theorem aNk {Q:Value->Shared->Prop} (hu:A.units+1<cLine) (I:Inv X pins σ H s) (g:nM H a y o) (ry:aP y u) (h: ∀ s',Inv X pins σ H s'->Q (.bool o.isSome) s'):
  wpAny (model X.prog X.w) A (compareOp .In u (.ref a)) Q E s:=by
 rcases g with ⟨kvs,k,e,ey,l⟩ | ⟨kvs,k,b,e,ey,eb,l⟩
 ·subst ey
  obtain⟨z,hd,vs,rel,dd⟩:=nJ I.hok e
  refine wpAny_in_of (nI ry) hd dd.mapOf ?_
  rw [<-(rel.val k).isSome_eq, <-l]
  exact h _ (I.tok _)
 ·subst ey
  cases (show u=Value.ref b from ry)
  obtain⟨z,hd,xs,rel,dd⟩:=nL I.hok e
  refine wpAny_in_heap (tupleKind_room_in1 hu) (i8 I.hok eb) hd dd ?_
  have q:=(rel.val k).isSome_eq
  rw [Option.isSome_map] at q
  rw [<-q, <-l]
  exact h _ (I.tok _)
theorem aCn {Q:Value->Shared->Prop} (hu:A.units+1<cLine) (I:Inv X pins σ H s) (g:nM H a y o) (ry:aP y u) (h: ∀ s',Inv X pins σ H s'->Q (.bool (!o.isSome)) s'):
  wpAny (model X.prog X.w) A (compareOp .NotIn u (.ref a)) Q E s:=by
 rcases g with ⟨kvs,k,e,ey,l⟩ | ⟨kvs,k,b,e,ey,eb,l⟩
 ·subst ey
  obtain⟨z,hd,vs,rel,dd⟩:=nJ I.hok e
  refine wpAny_notIn_of (nI ry) hd dd.mapOf ?_
  rw [<-(rel.val k).isSome_eq, <-l]
  exact h _ (I.tok _)
 ·subst ey
  cases (show u=Value.ref b from ry)
  obtain⟨z,hd,xs,rel,dd⟩:=nL I.hok e
  refine wpAny_notIn_heap (tupleKind_room_in1 hu) (i8 I.hok eb) hd dd ?_
  have q:=(rel.val k).isSome_eq
  rw [Option.isSome_map] at q
  rw [<-q, <-l]
  exact h _ (I.tok _)
theorem nN {h':Heap} {t':Nat} {ob:HO} (I:Inv X pins σ H s) (mu:Mut (H a)) (hs:Heap.SameBut a s.heap h') (he: ∃ q,h'.get? a=some q) (new:ObjOk X.prog X.w (upd H a ob) h' a ob):
  Inv X pins σ (upd H a ob) { s with heap:=h',toks:=t' }:=
 I.write (x:=a) (e:=a) mu (.inl rfl) (fun b q hb z=>(hs.2 b hb).trans z) he new
theorem zP {P:Program} {w:World} {H':Hp} {h':Heap} {kvs:List (Key×V)} {vs:List (Key×Value)} (z:kvs.length<=sizeLine) (hd:(a==sysModules)=false) (rel:KV kvs vs) (dd:h'.DictOf (bJ P w) a vs):
  ObjOk P w H' h' a (.dK kvs):=⟨z,hd,vs,rel,dd⟩
theorem uC {H':Hp} {Q:Unit->Shared->Prop} (hu:A.units+1<cLine) (I:Inv X pins σ H s) (g:aHb H a y v H') (ry:aP y u) (rv:aP v r) (h: ∀ s',Inv X pins σ H' s'->Q () s'):
  wpAny (model X.prog X.w) A (setItem (.ref a) u r) Q E s:=by
 rcases g with ⟨kvs,k,e,ey,l,eH⟩ | ⟨kvs,k,b,e,ey,eb,l,eH⟩
 ·subst ey eH
  obtain⟨z,hd,vs,rel,dd⟩:=aCm I.hok e
  have hz:vs.length<=sizeLine:=by rw [<-rel.length];exact z
  have hl:(putK kvs k v).length<=sizeLine:=by have:=iB kvs k v;omega
  refine wpAny_setItem_pairs (hsz:=hz) (nI ry) dd fun h' dd' hs=>h _ ?_
  have he: ∃ q,h'.get? a=some q:=let ⟨q,_,_,hq,_⟩:=dd';⟨q,hq⟩
  exact nN I (by rw [e];exact True.intro) hs he (zP hl hd (rel.put k rv) dd')
 ·subst ey eH
  cases (show u=Value.ref b from ry)
  obtain⟨z,hd,xs,rel,dd⟩:=aKl I.hok e
  have hz:xs.length<=sizeLine:=by rw [<-Paired.length rel];exact z
  have hl:(putK kvs k v).length<=sizeLine:=by have:=iB kvs k v;omega
  refine wpAny_setItem_heap (hsz:=hz) (tupleKind_room_in1 hu) (i8 I.hok eb) dd fun h' dd' hs=>h _ ?_
  obtain⟨q,es,ep,hq,h2,h3,h4,_,h5⟩:=dd'
  refine nN I (by rw [e];exact True.intro) hs ⟨q,hq⟩ ⟨hl,hd,_,(rel.put k eb rv).keeps fun c ys ec=> ?_,q,es,ep,hq,h2,h3,h4,h5⟩
  rw [aA (aJa ec e (fun z=>nomatch z))]
  exact ec
end
section
variable {X:Cx} {pins:List (Addr×Obj)} {σ:St} {H:Hp} {s:Shared} {a:Addr} {kvs:List (Key×V)} {k:Key} {u:Value} {A:Around} {E:Value->Shared->Prop}
theorem aKm {v:V} {more:List Value} {Q:Value->Shared->Prop} (I:Inv X pins σ H s) (e:H a=some (.dK kvs)) (ry:aP (kV k) u) (l:jZ kvs k=some v) (hm:more=[]\/ ∃ x,more=[x])
  (h: ∀ w' s',Inv X pins σ (upd H a (.dK (dropK kvs k))) s'->aP v w'->Q w' s'):wpAny (model X.prog X.w) A (call (.builtin "dict.pop") (.ref a::u::more)) Q E s:=by
 obtain⟨z,hd,vs,rel,dd⟩:=aCm I.hok e
 obtain⟨w',hw,rw'⟩:=jE.some_of (v:=v) (o:=valueAt vs k) (by rw [<-l];exact rel.val k)
 have hp:(keyPart u).isSome=true:=by
  cases k with
  | inl i=>obtain⟨t,q⟩:=(show ∃ t,u=Value.int i t from ry);subst q;rfl
  | inr x=>obtain⟨t,q⟩:=(show ∃ t,u=Value.str x t from ry);subst q;rfl
 have ha:argsOk "dict.pop" ⟨.ref a::u::more,[]⟩:=by
  rcases hm with q | ⟨x,q⟩
  ·subst q;exact PySem.F.args_dict_pop_2 _ _
  ·subst q;exact PySem.F.args_dict_pop_3 _ _ _
 refine call_meetsIn PySem.F.slot_dict_pop dd.typeIs PySem.F.entry_dict_pop ha (meets_dict_pop_there (bJ X.prog X.w) a (nI ry) more hm hp)
  ⟨vs,w',dd,by rw [<-rel.length];exact z,hw,fun h' dd' hs=>h w' _ ?_ rw'⟩
 have he: ∃ q,h'.get? a=some q:=let ⟨q,_,_,hq,_⟩:=dd';⟨q,hq⟩
 exact nN I (by rw [e];exact True.intro) hs he (zP (Nat.le_trans (xE kvs k) z) hd (rel.drop k) dd')
end
def aKn (i:Expr):Prop:= ∀ ov iv,subscripted i false ov iv=operate [ov,iv] (getItem ov iv)
theorem aCo {prog:Program} {w:World} {A:Around} {E:Value->Shared->Prop} {s:Shared} {env:Env} {value slice:Expr} {pos:Pos} {T id:String} {Q:Value->Shared->Prop}
  (hl:typeLookup (.type T) "__getitem__"=pure (some (.builtin id))) (hs:aKn slice)
  (h:wpAny (model prog w) A (eval value env) (fun o s₁=>wpAny (model prog w) A (eval slice env) (fun i s₂=>s₂.TypeIs o T/\wpAny (model prog w) A (getItem o i) Q E s₂) E s₁) E s):
  wpAny (model prog w) A (eval (.Subscript value slice pos) env) Q E s:=by
 refine Subscript_ (wpAny_mono h (fun o s₁ h₁=>wpAny_mono h₁ (fun i s₂ h₂=> ?_) fun _ _ x=>x) fun _ _ x=>x)
 obtain⟨hT,h₂⟩:=h₂
 unfold subscriptTail
 refine ae ?_
 rw [getitemInPython_of_ne hT.not_modules]
 refine ae (wpAny_specialOf hT hl ?_)
 have fin:wpAny (model prog w) A (subscripted slice false o i) (fun r s₃=>wpAny (model prog w) A (letTemporaryGo value o r >>= fun _=>pure r) Q E s₃) E s₂:=by
  rw [hs o i]
  exact wpAny_operating (wpAny_mono h₂ (fun r s₃ h₃=>ae (wpAny_letTemporaryGo (af h₃))) fun _ _ x=>x)
 first
  | exact af (ae fin)
  | exact ae (af (ae fin))
  | exact ae fin
theorem nO {X:Cx} {pins:List (Addr×Obj)} {σ:St} {H:Hp} {s:Shared} {a:Addr} {y:V} {o:Option V} (I:Inv X pins σ H s) (g:nM H a y o):s.TypeIs (.ref a) "dict":=by
 rcases g with ⟨kvs,k,e,_,_⟩ | ⟨kvs,k,b,e,_,_,_⟩
 ·obtain⟨_,_,vs,_,dd⟩:=nJ I.hok e
  exact dd.typeIs
 ·obtain⟨_,_,xs,_,dd⟩:=nL I.hok e
  exact dd.typeIs
noncomputable def aKo (td ty:TE):TE:=fun σ H Q=>td σ H fun x H1=>ty σ H1 fun y H2=> ∃ a v,x= .ref a/\nM H2 a y (some v)/\Q v H2
noncomputable def aNl (ty td:TE):TE:=fun σ H Q=>ty σ H fun y H1=>td σ H1 fun x H2=> ∃ a o,x= .ref a/\nM H2 a y o/\Q (.bl o.isSome) H2
noncomputable def aCp (ty td:TE):TE:=fun σ H Q=>ty σ H fun y H1=>td σ H1 fun x H2=> ∃ a o,x= .ref a/\nM H2 a y o/\Q (.bl (!o.isSome)) H2
noncomputable def aKp (td ty tv:TE):TS:=fun D σ H=>tv σ H fun v H1=>td σ H1 fun x H2=>ty σ H2 fun y H3=> ∃ a H4,x= .ref a/\aHb H3 a y v H4/\D.nx σ H4
section
variable {X:Cx} {o i e value:Expr} {pos pos' tpos:Pos} {td ty tv:TE}
theorem aCq (hu:X.A.units+1<cLine) (ho:PE X o td) (hi:PE X i ty) (hs:aKn i):PE X (.Subscript o i pos) (aKo td ty):=by
 intro pins s σ H Q I h
 refine aCo PySem.F.slot_dict_getitem.lookup hs (thn (ho pins s σ H _ I h) fun u s1 ⟨x,H1,I1,rx,q1⟩=>thn (hi pins s1 σ H1 _ I1 q1) fun iv s2 ⟨y,H2,I2,ry,a,v,ex,g,q2⟩=> ?_)
 subst ex
 obtain rfl:u=Value.ref a:=rx
 exact⟨nO I2 g,uB hu I2 g ry fun w' s3 I3 rw'=>⟨v,H2,I3,rw',q2⟩⟩
theorem aHc (hu:X.A.units+1<cLine) (hi:PE X i ty) (ho:PE X o td):PC X .In i o (aNl ty td):=by
 intro pins s σ H Q I h
 refine thn (hi pins s σ H _ I h) fun iv s1 ⟨y,H1,I1,ry,q1⟩=>thn (ho pins s1 σ H1 _ I1 q1) fun u s2 ⟨x,H2,I2,rx,a,ov,ex,g,q2⟩=> ?_
 subst ex
 obtain rfl:u=Value.ref a:=rx
 exact aNk hu I2 g ry fun s3 I3=>⟨.bl ov.isSome,H2,I3,rfl,q2⟩
theorem uD (hu:X.A.units+1<cLine) (hi:PE X i ty) (ho:PE X o td):PC X .NotIn i o (aCp ty td):=by
 intro pins s σ H Q I h
 refine thn (hi pins s σ H _ I h) fun iv s1 ⟨y,H1,I1,ry,q1⟩=>thn (ho pins s1 σ H1 _ I1 q1) fun u s2 ⟨x,H2,I2,rx,a,ov,ex,g,q2⟩=> ?_
 subst ex
 obtain rfl:u=Value.ref a:=rx
 exact aCn hu I2 g ry fun s3 I3=>⟨.bl (!ov.isSome),H2,I3,rfl,q2⟩
theorem aCr (hu:X.A.units+1<cLine) (ho:PE X o td) (hi:PE X i ty) (hv:PE X value tv) (hs:swapsWith value (some (.Subscript o i pos')) pos.line X.env=pure false):
  PS X (.Assign [.Subscript o i pos'] value pos) (aKp td ty tv):=by
 intro pins s σ H D I h
 refine wpAny_Assign_Subscript (thn (hv pins s σ H _ I h) fun r s1 ⟨v,H1,I1,rv,q1⟩=>thn (ho pins s1 σ H1 _ I1 q1) fun u s2 ⟨x,H2,I2,rx,q2⟩=>thn (hi pins s2 σ H2 _ I2 q2) fun iv s3 ⟨y,H3,I3,ry,a,H4,ex,g,q3⟩=> ?_) hs
 subst ex
 obtain rfl:u=Value.ref a:=rx
 exact uC hu I3 g ry rv fun s4 I4=>⟨σ,H4,I4,q3⟩
end
theorem xF {P:Program} {w:World} {H:Hp} (h:Heap) (hb:sysModules<h.objs.size):ObjOk P w H (h.push { cls:= .type "dict",data:= .dict #[] }) h.objs.size (.dK []):=
 ⟨bu _,beq_eq_false_iff_ne.mpr (Ne.symm (bj hb)),[], .nil,Heap.DictOf.new h⟩
noncomputable def aHd:TE:=fun _ H Q=> ∀ p,H p=none->Q (.ref p) (upd H p (.dK []))
section
variable {X:Cx} {pos:Pos}
theorem xG:PE X (.Dict [] [] pos) aHd:=fun pins s σ H Q I h=>
 wpAny_Dict_empty ⟨.ref s.heap.objs.size,_,I.laid (a:=s.heap.objs.size) (o:= .dK []) (t':=s.toks) (fun _ _ q=>ag _ q) (ak _) (xF s.heap I.bigK),rfl,h _ (I.hok.fresh (ak _))⟩
end
structure M1 (X:Cx) (o:Expr) (m:Str) (apos:Pos) (e:Expr) (cpos:Pos):Prop where
 base:attributeBase o m X.env (eval o X.env)=eval o X.env
 few:((backTo cpos (starEach [e] X.env)).all (fun x=> !x.1)&&(backToKw cpos (keywordEach [] X.env)).all (fun x=>x.1.isSome)
  &&decide (([e]:List Expr).length+([]:List Keyword).length+(if([]:List Keyword).isEmpty then 0 else 1)<30))=true
 line:(apos.endLine==cpos.line)=true
 trees:backTo cpos (starEach [e] X.env)=[(false,eval e X.env)]
def IsD (H:Hp) (a:Addr):Prop:=(∃ kvs,Rd H a (.dK kvs))\/ ∃ kvs,Rd H a (.dT kvs)
theorem zQ {X:Cx} {pins:List (Addr×Obj)} {σ:St} {H:Hp} {s:Shared} {a:Addr} (I:Inv X pins σ H s) (d:IsD H a):
  s.TypeIs (.ref a) "dict"/\(∀ b,Value.ref a= .ref b-> ∃ ob,s.heap.get? b=some ob/\ob.dict=none)/\(a==sysModules)=false:=by
 rcases d with ⟨kvs,e⟩ | ⟨kvs,e⟩
 ·obtain⟨_,hd,vs,_,dd⟩:=nJ I.hok e
  refine⟨dd.typeIs,fun b q=> ?_,hd⟩
  cases q
  obtain⟨ob,_,_,h1,h2,_⟩:=dd
  exact⟨ob,h1,h2.2.1⟩
 ·obtain⟨_,hd,xs,_,dd⟩:=nL I.hok e
  refine⟨dd.typeIs,fun b q=> ?_,hd⟩
  cases q
  obtain⟨ob,_,_,h1,h2,_⟩:=dd
  exact⟨ob,h1,h2.2.1⟩
section
variable {X:Cx} {pins:List (Addr×Obj)} {σ:St} {H:Hp} {s:Shared} {a:Addr} {y d:V} {u r:Value} {o:Option V} {A:Around} {E:Value->Shared->Prop}
theorem aHe {Q:Value->Shared->Prop} (hu:A.units+1<cLine) (I:Inv X pins σ H s) (g:nM H a y o) (ry:aP y u) (h: ∀ w' s',Inv X pins σ H s'->aP (o.getD .non) w'->Q w' s'):
  wpAny (model X.prog X.w) A (call (.builtin "dict.get") [.ref a,u]) Q E s:=by
 rcases g with ⟨kvs,k,e,ey,l⟩ | ⟨kvs,k,b,e,ey,eb,l⟩
 ·subst ey
  obtain⟨z,hd,vs,rel,dd⟩:=nJ I.hok e
  refine call_meetsIn PySem.F.slot_dict_get dd.typeIs PySem.F.entry_dict_get (PySem.F.args_dict_get_2 _ _) (meets_dict_get (bJ X.prog X.w) a (nI ry) hd) ⟨_,dd.mapOf,h _ _ (I.tok _) ?_⟩
  rw [l]
  exact(rel.val k).getD rfl
 ·subst ey
  cases (show u=Value.ref b from ry)
  obtain⟨z,hd,xs,rel,dd⟩:=nL I.hok e
  refine call_meetsIn PySem.F.slot_dict_get dd.typeIs PySem.F.entry_dict_get (PySem.F.args_dict_get_2 _ _) (meetsH_dict_get (tupleKind (bJ X.prog X.w)) a b hd) ⟨tupleKind_room_in1 hu,k,xs,i8 I.hok eb,dd,h _ _ (I.tok _) ?_⟩
  rw [l]
  exact(rel.val k).getD rfl
end
noncomputable def aHf (td ty:TE):TE:=fun σ H Q=>td σ H fun x H1=> ∃ a,x= .ref a/\IsD H1 a/\ty σ H1 fun y H2=> ∃ o,nM H2 a y o/\Q (o.getD .non) H2
noncomputable def zR (td ty:TE):TE:=fun σ H Q=>td σ H fun x H1=> ∃ a,x= .ref a/\IsD H1 a/\ty σ H1 fun y H2=> ∃ kvs k v,H2 a=some (.dK kvs)/\y=kV k/\jZ kvs k=some v/\Q v (upd H2 a (.dK (dropK kvs k)))
section
variable {X:Cx} {o e f:Expr} {apos cpos:Pos} {td ty tx:TE}
theorem xH (hu:X.A.units+1<cLine) (ho:PE X o td) (he:PE X e ty) (m:M1 X o "get" apos e cpos):PE X (.Call (.Attribute o "get" apos) [e] [] cpos) (aHf td ty):=by
 intro pins s σ H Q I h
 refine wpAny_Call_method m.base m.few m.line PySem.F.plainAttrs_dict PySem.F.slot_dict_get PySem.F.type_dict_get (thn (ho pins s σ H _ I h) fun u s1 ⟨x,H1,I1,rx,a,ex,d,q1⟩=> ?_)
 subst ex
 obtain rfl:u=Value.ref a:=rx
 obtain⟨t1,t2,_⟩:=zQ I1 d
 refine⟨t1,t2, ?_⟩
 rw [m.trees]
 refine Calls.callWith_builtin rfl (Calls.evalArgs_plain (Calls.spliced_cons (thn (he pins s1 σ H1 _ I1 q1) fun iv s2 ⟨y,H2,I2,ry,ov,g,q2⟩=>Calls.spliced_nil ?_)))
 exact aHe hu I2 g ry fun w' s3 I3 rw'=>⟨_,H2,I3,rw',q2⟩
theorem xI (ho:PE X o td) (he:PE X e ty) (m:M1 X o "pop" apos e cpos):PE X (.Call (.Attribute o "pop" apos) [e] [] cpos) (zR td ty):=by
 intro pins s σ H Q I h
 refine wpAny_Call_method m.base m.few m.line PySem.F.plainAttrs_dict PySem.F.slot_dict_pop PySem.F.type_dict_pop (thn (ho pins s σ H _ I h) fun u s1 ⟨x,H1,I1,rx,a,ex,d,q1⟩=> ?_)
 subst ex
 obtain rfl:u=Value.ref a:=rx
 obtain⟨t1,t2,_⟩:=zQ I1 d
 refine⟨t1,t2, ?_⟩
 rw [m.trees]
 refine Calls.callWith_builtin rfl (Calls.evalArgs_plain (Calls.spliced_cons (thn (he pins s1 σ H1 _ I1 q1) fun iv s2 ⟨y,H2,I2,ry,kvs,k,v,ea,ey,l,q2⟩=>Calls.spliced_nil ?_)))
 subst ey
 exact aKm I2 ea ry l (.inl rfl) fun w' s3 I3 rw'=>⟨v,_,I3,rw',q2⟩
end
section
variable {X:Cx} {pins:List (Addr×Obj)} {σ:St} {H:Hp} {s:Shared} {a:Addr} {kvs:List (Key×V)} {A:Around} {E:Value->Shared->Prop}
end
section
variable {X:Cx} {pins:List (Addr×Obj)} {σ:St} {H:Hp} {s:Shared} {a:Addr} {y:V} {u:Value} {A:Around} {E:Value->Shared->Prop}
end
section
variable {X:Cx}
end
section
variable {κ:Type} [DecidableEq κ]
end
end L2
namespace SK
open PySem PySem.Spec PyProof.Rows L2
section
variable {prog:Program} {w:World} {A:Around} {E:Value->Shared->Prop} {s:Shared}
end
section
variable {X:Cx} {ad:Ad} {pins:List (Addr×Obj)} {s:Shared} {σ:St} {H G:Hp} {ρ:Rho} {tg:Expr}
end
open PySem.W
section
variable {X:Cx} {ad:Ad} {pins:List (Addr×Obj)} {s:Shared} {σ:St} {H G:Hp} {ρ:Rho} {Q:VK} {E:Nat->Hp->Prop} {pos p ap cp:Pos} {a b c e:Expr} {f g h:F} {A i:Nat} {x:Str}
theorem iC {k:Rk->R} (hr:RK X.K ad G H (wG A i k ρ) Q E): ∃ r,ρ[i]? =some (.rk A r)/\RK X.K ad G H (k r) Q E:=by
 unfold wG at hr
 cases e:ρ[i]? with
 | none=>rw [e] at hr;exact hr.elim
 | some sl=>
  rw [e] at hr
  cases sl with
  | rk C r=>
   have hr':RK X.K ad G H (if C=A then k r else .bad) Q E:=hr
   by_cases hc:C=A
   ·rw [if_pos hc] at hr'
    subst hc
    exact⟨r,rfl,hr'⟩
   ·rw [if_neg hc] at hr'
    exact hr'.elim
  | no=>exact hr.elim
  | sh d=>exact hr.elim
  | ow d=>exact hr.elim
  | dc d=>exact hr.elim
  | sd d=>exact hr.elim
theorem gE {K:Frag} {held:List (Str×D)} {kvs:List (L2.Key×V)} (h:HR K ad G held kvs) (x:Str):match mY held x with | none=>jZ kvs (Sum.inr x)=none | some d=> ∃ v,jZ kvs (Sum.inr x)=some v/\Rep K ad G d v:=by
 induction h with
 | nil=>exact xD
 | @cons p q ps qs hq t ih=>
  unfold mY
  rw [List.find?_cons]
  by_cases e:p.1=x
  ·rw [decide_eq_true e]
   exact⟨q.2,gB (by rw [hq.1,e]),hq.2⟩
  ·rw [decide_eq_false e]
   have ne: ¬ q.1=(Sum.inr x:L2.Key):=fun z=>e (by rw [hq.1] at z;exact Sum.inr.inj z)
   rw [gC ne]
   exact ih
theorem eJ (RC:RkC X.K A) {r:Rk} {p0 dx d l1 l2:Addr} (h:RackIn X.K ad A G H p0 r dx d l1 l2) (hi:σ[i]? =some (some (.ref p0))) {Q:VK} {fd:Str} {v:V} (hf:[(("held":Str),V.ref d),("done", .ref l1),("undone", .ref l2)].lookup fd=some v) (na:eC X.K A fd) (q:Q v H):aIw X.K (aEx i) fd σ H Q:=
 ⟨.ref p0,hi,p0,A,dx,_,v,rfl,h.ins,RC.cl,na,hf,q⟩
theorem zS (RC:RkC X.K A) (hN:X.N[i]? =some x) (hv:Vis X.env.scope x) (hd:(x==("__debug__":Str))=false) (hcd:(x==("__classdict__":Str))=false) (bb:Bool):
  ML X ad (.Attribute (.Name x p) (if bb then "done" else "undone") pos) (yU A i bb):=by
 refine PE.imp (eE (aV hN hv hd hcd) rfl) fun σ H Q hz_=> ?_
 obtain⟨G,ρ,E,hG,hS,hx,hr⟩:=hz_
 unfold yU wG at hr
 cases e:ρ[i]? with
 | none=>rw [e] at hr;exact hr.elim
 | some sl=>
  rw [e] at hr
  cases sl with
  | rk C r=>
   have hr':LK X ad G H (if C=A then .ok (.lst (vQ bb r)) else .bad) Q E:=hr
   by_cases hc:C=A
   ·rw [if_pos hc] at hr'
    subst hc
    obtain⟨p0,dx,d,l1,l2,h1,h2⟩:=hS.rk e
    obtain⟨v1,b1,b2⟩:=h2.done
    obtain⟨v2,c1,c2⟩:=h2.undone
    cases bb
    ·exact eJ RC h2 h1 (fd:="undone") rfl RC.n3 (hr' _ G H (Step.refl hG) (.inr ⟨l2,v2,_,rfl,rfl,h2.g2,c1,c2⟩))
    ·exact eJ RC h2 h1 (fd:="done") rfl RC.n2 (hr' _ G H (Step.refl hG) (.inr ⟨l1,v1,_,rfl,rfl,h2.g1,b1,b2⟩))
   ·rw [if_neg hc] at hr'
    exact hr'.elim
  | no=>exact hr.elim
  | sh d=>exact hr.elim
  | ow d=>exact hr.elim
  | dc d=>exact hr.elim
  | sd d=>exact hr.elim
theorem aCs (hu:X.A.units+62<cLine) (RC:RkC X.K A) (hN:X.N[i]? =some x) (hv:Vis X.env.scope x) (hd:(x==("__debug__":Str))=false) (hcd:(x==("__classdict__":Str))=false) (hf:ME X ad a f) (hs:aKn a):
  ME X ad (.Subscript (.Attribute (.Name x p) "held" ap) a pos) (rX A i f):=by
 refine PE.imp (aCq (by omega) (eE (aV hN hv hd hcd) rfl) hf hs) fun σ H Q hz_=> ?_
 obtain⟨G,ρ,E,hG,hS,hx,hr⟩:=hz_
 unfold rX at hr
 obtain⟨r,e,hr⟩:=iC hr
 obtain⟨p0,dx,d,l1,l2,h1,h2⟩:=hS.rk e
 refine eJ RC h2 h1 (fd:="held") rfl RC.n1 ?_
 refine eO hG hS hx hr fun v d' G1 H1 st rv k=> ?_
 obtain⟨kvs,a1,a2⟩:=(h2.step st).held
 cases d' with
 | str y=>
  unfold Rep at rv
  subst rv
  have hh:=gE a2 y
  have k':RK X.K ad G1 H1 (match mY r.held y with | some d=> .ok d | none=> .bad) Q E:=k
  cases q:mY r.held y with
  | none=>rw [q] at k';exact k'.elim
  | some dd=>
   rw [q] at k' hh
   obtain⟨v,e1,e2⟩:=hh
   refine⟨d,v,rfl, ?_,k'.ok_now st.gh e2⟩
   rw [<-e1]
   exact nM.k (k:=Sum.inr y) a1
 | _=>exact ba k
theorem aCt (hu:X.A.units+62<cLine) (RC:RkC X.K A) (hN:X.N[i]? =some x) (hv:Vis X.env.scope x) (hd:(x==("__debug__":Str))=false) (hcd:(x==("__classdict__":Str))=false) (hf:ME X ad a f) (hm:M1 X (.Attribute (.Name x p) "held" pos) "get" ap a cp):
  ME X ad (.Call (.Attribute (.Attribute (.Name x p) "held" pos) "get" ap) [a] [] cp) (wH A i f):=by
 refine PE.imp (xH (by omega) (eE (aV hN hv hd hcd) rfl) hf hm) fun σ H Q hz_=> ?_
 obtain⟨G,ρ,E,hG,hS,hx,hr⟩:=hz_
 unfold wH at hr
 obtain⟨r,e,hr⟩:=iC hr
 obtain⟨p0,dx,d,l1,l2,h1,h2⟩:=hS.rk e
 obtain⟨kvs0,a0,_⟩:=h2.held
 refine eJ RC h2 h1 (fd:="held") rfl RC.n1 ⟨d,rfl, .inl ⟨kvs0, .inl a0⟩, ?_⟩
 refine eO hG hS hx hr fun v d' G1 H1 st rv k=> ?_
 obtain⟨kvs,a1,a2⟩:=(h2.step st).held
 cases d' with
 | str y=>
  unfold Rep at rv
  subst rv
  have hh:=gE a2 y
  have k':RK X.K ad G1 H1 (.ok ((mY r.held y).getD .non)) Q E:=k
  refine⟨jZ kvs (Sum.inr y),nM.k (k:=Sum.inr y) a1, ?_⟩
  cases q:mY r.held y with
  | none=>
   rw [q] at k' hh
   rw [hh]
   exact k'.ok_now st.gh (by unfold Rep;rfl)
  | some dd=>
   rw [q] at k' hh
   obtain⟨v,e1,e2⟩:=hh
   rw [e1]
   exact k'.ok_now st.gh e2
 | _=>exact ba k
theorem aHg (hu:X.A.units+62<cLine) (RC:RkC X.K A) (hN:X.N[i]? =some x) (hv:Vis X.env.scope x) (hd:(x==("__debug__":Str))=false) (hcd:(x==("__classdict__":Str))=false) (hf:ME X ad a f) (neg:Bool):
  PC X (if neg then .NotIn else .In) a (.Attribute (.Name x p) "held" ap) (tE X ad (aEj neg A i f)):=by
 have rd: ∀ (b:Bool) (σ:St) (H:Hp) (Q:VK),tE X ad (aEj b A i f) σ H Q->tE X ad f σ H fun y H1=>aIw X.K (aEx i) "held" σ H1 fun z H2=> ∃ a o,z= .ref a/\nM H2 a y o/\Q (.bl (b != o.isSome)) H2:=fun b σ H Q hz_=>by
  obtain⟨G,ρ,E,hG,hS,hx,hr⟩:=hz_
  unfold aEj at hr
  refine eO hG hS hx hr fun v d' G1 H1 st rv k=> ?_
  obtain⟨r,e,k⟩:=iC k
  obtain⟨p0,dx,d,l1,l2,h1,h2⟩:=(hS.step st).rk e
  refine eJ RC h2 h1 (fd:="held") rfl RC.n1 ?_
  obtain⟨kvs,a1,a2⟩:=h2.held
  cases d' with
  | str y=>
   unfold Rep at rv
   subst rv
   have hh:=gE a2 y
   have k':RK X.K ad G1 H1 (.ok (.bl (b != (mY r.held y).isSome))) Q E:=k
   refine⟨d,jZ kvs (Sum.inr y),rfl,nM.k (k:=Sum.inr y) a1, ?_⟩
   have es:(jZ kvs (Sum.inr y)).isSome=(mY r.held y).isSome:=by
    cases q:mY r.held y with
    | none=>rw [q] at hh;rw [hh];rfl
    | some dd=>rw [q] at hh;obtain⟨v,e1,_⟩:=hh;rw [e1];rfl
   rw [es]
   exact k'.ok_now st.gh (by unfold Rep;rfl)
  | _=>exact ba k
 intro pins s σ H Q I hz_
 cases neg
 ·refine aHc (by omega) hf (eE (aV hN hv hd hcd) rfl) pins s σ H Q I ?_
  obtain⟨G,ρ,E,hG,hS,hx,hr⟩:=rd false σ H Q hz_
  exact⟨G,ρ,E,hG,hS,hx,by simpa using hr⟩
 ·refine uD (by omega) hf (eE (aV hN hv hd hcd) rfl) pins s σ H Q I ?_
  obtain⟨G,ρ,E,hG,hS,hx,hr⟩:=rd true σ H Q hz_
  exact⟨G,ρ,E,hG,hS,hx,by simpa using hr⟩
end
theorem zT {a b c:Str} (h1:ltS b a=false) (h2:ltS c b=false):ltS c a=false:=by
 unfold ltS at *
 rw [decide_eq_false_iff_not] at *
 rw [List.not_lt] at *
 exact List.le_trans h1 h2
theorem uE {a b:Str} (h1:ltS a b=false) (h2:ltS b a=false):a=b:=by
 unfold ltS at *
 rw [decide_eq_false_iff_not] at *
 rw [List.not_lt] at *
 have e:=List.le_antisymm h2 h1
 obtain⟨⟨x⟩⟩:=a
 obtain⟨⟨y⟩⟩:=b
 cases e
 rfl
theorem xJ {a b:Str} (h:ltS a b=true):ltS b a=false:=by
 unfold ltS at *
 rw [decide_eq_true_iff] at h
 rw [decide_eq_false_iff_not,List.not_lt]
 exact List.le_of_lt h
theorem iD (x:Str): ∀ l,(aBc x l).Perm (x::l)
 | []=>List.Perm.refl _
 | y::l=>by
  unfold aBc
  split
  ·exact((iD x l).cons y).trans (List.Perm.swap x y l)
  ·exact List.Perm.refl _
theorem fQ: ∀ l,(jJ l).Perm l
 | []=>List.Perm.refl _
 | x::l=>(iD x _).trans ((fQ l).cons x)
theorem i9 (x:Str): ∀ {l:List Str},l.Pairwise (fun a b=>ltS b a=false)->(aBc x l).Pairwise (fun a b=>ltS b a=false)
 | [],_=>by simp [aBc]
 | y::l,h=>by
  rw [List.pairwise_cons] at h
  unfold aBc
  split
  ·rename_i hy
   rw [List.pairwise_cons]
   refine⟨fun z hz=> ?_,i9 x h.2⟩
   rcases av.mp ((iD x l).mem_iff.mp hz) with rfl | hz
   ·exact xJ hy
   ·exact h.1 z hz
  ·rename_i hy
   have hy':ltS y x=false:=by simpa using hy
   rw [List.pairwise_cons]
   refine⟨fun z hz=> ?_,List.pairwise_cons.mpr h⟩
   rcases av.mp hz with rfl | hz
   ·exact hy'
   ·exact zT hy' (h.1 z hz)
theorem iE: ∀ l,(jJ l).Pairwise (fun a b=>ltS b a=false)
 | []=> .nil
 | x::l=>i9 x (iE l)
theorem pD: ∀ {l:List Str} {p:Str},risingS p l=true->(p::l).Pairwise (fun a b=>ltS b a=false)
 | [],p,_=>by simp
 | x::r,p,h=>by
  unfold risingS at h
  rw [aw] at h
  have ih:=pD h.2
  have hx:ltS x p=false:=by
   have:=h.1
   rw [ltCps_eq] at this
   simpa [ltS] using this
  rw [List.pairwise_cons]
  refine⟨fun z hz=> ?_,ih⟩
  rcases av.mp hz with rfl | hz
  ·exact hx
  ·exact zT hx ((List.pairwise_cons.mp ih).1 z hz)
theorem qK {l m:List Str} (p:m.Perm l) (h:sortedS m=true):m=jJ l:=by
 have hp:m.Pairwise (fun a b=>ltS b a=false):=by
  cases m with
  | nil=>exact .nil
  | cons x r=>exact pD h
 exact List.Perm.eq_of_pairwise (fun a b _ _ x y=>uE y x) hp (iE l) (p.trans (fQ l).symm)
section
variable {prog:Program} {w:World} {A:Around} {Ex:Value->Shared->Prop} {s:Shared} {T:String} {r d:Addr} {n:Nat} {P:Nat->Value->Prop} {OK:Heap->Prop}
theorem nQ {Q:List Value->Shared->Prop} (S:KdlSrc prog w T r d n P OK) (hh:A.handled=none) (hok:OK s.heap) (hn:n<=sizeLine)
  (h: ∀ h' tk (vs:List Value),(∀ b o,s.heap.get? b=some o->h'.get? b=some o)->vs.length=n->(∀ j v,vs[j]? =some v->P j v)->Q vs { s with heap:=h',toks:=tk }):wpAny (model prog w) A (collect (.ref r)) Q Ex s:=by
 have lt:=S.there _ hok
 unfold collect
 refine ae (wpAny_runValue (codeAny_builtin entry_proto_collect' ?_))
 refine ae (wpAny_newList (af ⟨Code.quiet_builtin _ (by decide+kernel),codeAny_builtin entry_list_iadd' ?_⟩))
 refine kdl_extend (A:=A) (R:=fun q s'=>match q with
  | .ok (.ret v)=>wpAny (model prog w) A (match v with
   | .ref a=>(do
    let o<-load a
    match o.data with
    | .seq xs _=>pure xs.toList
    | _=>unsupported "internal:collect")
   | _=>unsupported "internal:collect") Q Ex s'
  | .ok _=>False
  | .error e=>Ex e s') (s:={ s with heap:=s.heap.push (seqObj "list" #[] 0) }) S hh (S.keep _ _ hok fun b _ o e=>ag _ e) s.heap.objs.size (Nat.ne_of_gt lt.1) (Nat.ne_of_gt lt.2) (.ref s.heap.objs.size) 0 (ah _ rfl) (fun h' tk acc c hk hS hacc=> ?_) hn
 refine ae (wpAny_load hS (af ?_))
 refine h h' tk acc.toList (fun b o e=>hk b o (bj (ai e)) (ag _ e)) (by rw [Array.length_toList];exact hacc.1) fun j v e=>hacc.2 j v (by rw [<-Array.getElem?_toList];exact e)
theorem qM {Q:Value->Shared->Prop} {ss:List Str} (S:KdlSrc prog w T r d n P OK) (hh:A.handled=none) (hok:OK s.heap) (h64:n<64) (hP: ∀ vs:List Value,vs.length=n->(∀ j v,vs[j]? =some v->P j v)->StrsAre vs ss)
  (h: ∀ (h1 h':Heap) tk (out:List Value) e,(∀ b o,s.heap.get? b=some o->h1.get? b=some o)->(∀ b o,h1.get? b=some o->h'.get? b=some o)->h'.get? h1.objs.size=some (seqObj "list" out.toArray e)->StrsAre out (jJ ss)->Q (.ref h1.objs.size) { s with heap:=h',toks:=tk }):
  wpAny (model prog w) A (call (.builtin "sorted") [.ref r]) Q Ex s:=by
 refine Calls.call_function_entry kind_sorted plain_sorted entry_sorted (args_sorted1 _) ?_
 unfold Builtin.«sorted»
 refine ae (m:=checkCount "sorted" 1 1 _) (af ?_)
 refine ae (nQ (A:=A.in1) S hh hok (by rw [sizeLine_eq];omega) fun h1 tk vs hk hl hv=> ?_)
 have hs:=hP vs hl hv
 refine ae (wpAny_newList ?_ (by rw [sizeLine_eq];omega))
 have hoL:(h1.push (seqObj "list" vs.toArray 0)).get? h1.objs.size=some (seqObj "list" vs.toArray 0):=ah _ rfl
 refine ae (wpAny_holding (wpAny_call_entry slot_list_sort ⟨_,hoL,rfl⟩ entry_list_sort (list_sort_treeK (s:={ s with heap:=h1.push (seqObj "list" vs.toArray 0),toks:=tk }) strKind_oneLt hoL hs.keysOf (fun v₁ v₂ dW e=>keyKind_strs (by rw [<-e];exact hs)) (by omega) fun st' a1 a2=>⟨_,rfl, ?_⟩) (args_list_sort _)))
 obtain⟨ss',b1,b2,b3⟩:=sorted_out_str hs a1 a2
 obtain⟨e,he⟩:=sortedHeap_at (out:=(arrOf st').map (·.2)) hoL
 have old: ∀ b o,h1.get? b=some o->(sortedHeap (h1.push (seqObj "list" vs.toArray 0)) h1.objs.size vs ((arrOf st').map (·.2))).get? b=some o:=fun b o q1=>by
  have lt:b<h1.objs.size:=ai q1
  rw [sortedHeap_old (bj lt) (by rw [aj];exact Nat.lt_succ_of_lt lt),Heap.get?_push_ne _ _ _ (bj lt)]
  exact q1
 exact af ⟨_,rfl,h h1 _ tk ((arrOf st').map (·.2)).toList e hk old (by rw [Array.toArray_toList];exact he) (by rw [<-qK b2 b3];exact b1)⟩
end
noncomputable def aHh:List V->Hp->VK->Prop:=fun xs H Q=> ∃ d kvs ks,xs=[V.ref d]/\H d=some (.dK kvs)/\kvs.map (·.1)=ks.map (fun k:Str=>(Sum.inr k:L2.Key))/\ks.length<64/\ ∀ p,H p=none->Q (.ref p) (upd H p (.lst ((jJ ks).map V.str)))
theorem uF {vs:List Value} {ss:List Str} (h:StrsAre vs ss):aS (ss.map V.str) vs:=by
 induction h with
 | nil=>exact .nil
 | cons y t _ ih=>exact .cons ⟨t,rfl⟩ ih
theorem qN {X:Cx} (hc:X.calm=true):iQ X (.builtin "sorted") aHh:=by
 intro pins s σ H xs us Q I r h
 obtain⟨d,kvs,ks,rfl,hd,hk,h64,q⟩:=h
 obtain⟨u,rfl,ru⟩:=aS.one r
 cases ru
 obtain⟨z,lo,vs,kv,dd⟩:=aCm I.hok hd
 obtain⟨o,es,ep,m1,m2,m3,m4,m5,m6⟩:=dd
 have hkeys:vs.map (·.1)=ks.map (fun k:Str=>(Sum.inr k:L2.Key)):=by rw [<-kv.keys];exact hk
 have hvl:vs.length=ks.length:=by simpa using congrArg List.length hkeys
 refine qM (ss:=ks) (kdl_dict (knd:=bJ X.prog X.w) (kvs:=vs) (ep:=ep) lo) (I.ok.hd hc) ⟨o,es,m1,m2,m3,m4,m5,m6⟩ (by omega) (fun ws hl hv=> ?_) fun h1 h' tk out e k1 k2 e1 e2=> ?_
 ·have key: ∀ (ws:List Value) (ks:List Str),ws.length=ks.length->(∀ (j:Nat) (v:Value),ws[j]? =some v-> ∃ k,ks[j]? =some k/\ ∃ t,v=Value.str k t)->StrsAre ws ks:=by
   intro ws
   induction ws with
   | nil=>intro ks hl _;cases ks with | nil=>exact .nil | cons _ _=>cases hl
   | cons v ws ih=>
    intro ks hl hv
    cases ks with
    | nil=>cases hl
    | cons k ks=>
     obtain⟨k',e1,t,e2⟩:=hv 0 v rfl
     cases e1
     subst e2
     exact .cons k t (ih ks (by simpa using hl) fun j v e=>hv (j+1) v e)
  refine key ws ks (by omega) fun j v e=> ?_
  obtain⟨k,x,e1,e2⟩:=hv j v e
  have e3:(ks.map (fun k:Str=>(Sum.inr k:L2.Key)))[j]? =some k:=by rw [<-hkeys,List.getElem?_map,e1];rfl
  rw [List.getElem?_map] at e3
  cases e4:ks[j]? with
  | none=>rw [e4] at e3;cases e3
  | some y=>
   rw [e4] at e3
   cases e3
   refine⟨y,rfl, ?_⟩
   exact Value.isStrOf_shape e2
 ·have I1:Inv X pins σ H { s with heap:=h1,toks:=tk }:=I.kept k1
  have n:=I1.hok.fresh (ak h1.objs.size)
  have hz:((jJ ks).map V.str).length<=sizeLine:=by
   rw [aq,(fQ ks).length_eq]
   exact Nat.le_trans (Nat.le_of_lt h64) (by decide)
  exact⟨.ref h1.objs.size,_,I1.laid (o:= .lst ((jJ ks).map V.str)) (t':=tk) k2 (ak _) ⟨hz,out,e,uF e2,e1⟩,rfl,q _ n⟩
section
variable {X:Cx} {ad:Ad} {pos p np ap:Pos} {A i:Nat} {x:Str}
theorem aCu {K:Frag} {G:Hp} {held:List (Str×D)} {kvs:List (L2.Key×V)} (h:HR K ad G held kvs):kvs.map (·.1)=(held.map (·.1)).map (fun k:Str=>(Sum.inr k:L2.Key)):=by
 induction h with
 | nil=>rfl
 | cons hq t ih=>rw [List.map_cons,List.map_cons,List.map_cons,ih,hq.1]
theorem l4 {K:Frag} {G:Hp}: ∀ ss:List Str,aE K ad G (ss.map D.str) (ss.map V.str)
 | []=>aE.nil
 | s::ss=>aE.cons (by unfold Rep;rfl) (l4 ss)
theorem aCv (hc:X.calm=true) (RC:RkC X.K A) (hg:L2.Gl X "sorted") (hm:X.mg "sorted"=none) (hN:X.N[i]? =some x) (hv:Vis X.env.scope x) (hd:(x==("__debug__":Str))=false) (hcd:(x==("__classdict__":Str))=false):
  ME X ad (.Call (.Name "sorted" p) [.Attribute (.Name x np) "held" ap] [] pos) (aBd A i):=by
 refine PE.imp (oB (qN hc) hg hm (by decide+kernel) (bU (eE (aV hN hv hd hcd) rfl) cI rfl)) fun σ H Q hz_=> ?_
 obtain⟨G,ρ,E,hG,hS,hx,hr⟩:=hz_
 obtain⟨r,e,hr⟩:=iC hr
 obtain⟨p0,dx,d,l1,l2,h1,h2⟩:=hS.rk e
 obtain⟨kvs,a1,a2⟩:=h2.held
 by_cases hl:r.held.length<64
 ·rw [if_pos hl] at hr
  refine eJ RC h2 h1 (fd:="held") rfl RC.n1 ⟨d,kvs,r.held.map (·.1),rfl,a1,aCu a2,by simpa using hl,fun q n=> ?_⟩
  exact hr.ow_new hG (l4 _) n
 ·rw [if_neg hl] at hr
  exact hr.elim
end
theorem pE {m:Str} {d l1 l2:Addr} (h:m≠"held"/\m≠"done"/\m≠"undone"):[(("held":Str),V.ref d),("done", .ref l1),("undone", .ref l2)].lookup m=none:=by
 have e1:(m==("held":Str))=false:=by simpa using h.1
 have e2:(m==("done":Str))=false:=by simpa using h.2.1
 have e3:(m==("undone":Str))=false:=by simpa using h.2.2
 rw [List.lookup_cons,e1,List.lookup_cons,e2,List.lookup_cons,e3,List.lookup_nil]
theorem fA {o:Expr} {m:Str} {ap cp:Pos} {es:List Expr} {env:PySem.Env} (hb:attributeBase o m env (eval o env)=eval o env) (hf:methodCallForm (es.length+([]:List Keyword).length) (backTo cp (starEach es env)) (backToKw cp (keywordEach [] env))=true) (hl:(ap.endLine==cp.line)=true):
  eval (.Call (.Attribute o m ap) es [] cp) env=(do
   let ov<-eval o env
   standAt ap.atName
   let (f,first)<-holding [ov] (getMethod ov m (do return (<-importBound o env).getD true))
   callWith cp f first (backTo cp (starEach es env)) (backToKw cp (keywordEach [] env))):=by
 rw [arm_eval_Call,hb]
 unfold methodCall calleeOf methodCallPos
 rw [hf,hl]
 rfl
section
variable {X:Cx} {ad:Ad} {pins:List (Addr×Obj)} {s:Shared} {σ:St} {H G:Hp} {ρ:Rho} {Q:VK} {E:Nat->Hp->Prop} {pos p ap cp:Pos} {a b c e:Expr} {es:List Expr} {f g h:F} {fs:List F} {A i n:Nat} {x m:Str} {M:FM}
theorem uG {G H:Hp} {p0 dx d l1 l2:Addr} {m:RM} (h:RK X.K ad G H m.told Q E):RMK X.K ad A G H p0 dx d l1 l2 m Q E:=by
 cases m with
 | pure x=>exact h
 | chg _ _=>exact ba h
theorem RMK.impE {G H:Hp} {p0 dx d l1 l2:Addr} {m:RM} {E':Nat->Hp->Prop} (h:RMK X.K ad A G H p0 dx d l1 l2 m Q E) (k: ∀ c H',E c H'->E' c H'):RMK X.K ad A G H p0 dx d l1 l2 m Q E':=by
 cases m with
 | pure x=>exact RK.impE h k
 | chg _ _=>exact h
theorem iF (M0:MetOk X ad A m n M) {us:List Value} {vs:List V} {ds:List D} {r:Rk} {p0 dx d l1 l2:Addr} (I:Inv X pins σ H s) (hG:Same G H) (hR:RackIn X.K ad A G H p0 r dx d l1 l2) (rv:aS vs us) (rq:aE X.K ad G ds vs) (hl:ds.length=n) (hx:XP X ad σ E) (h:RMK X.K ad A G H p0 dx d l1 l2 (M r ds) Q E) {f:Addr} (hf:Meth X.K A m f):
  wpAny (model X.prog X.w) X.A (call (.ref f) (.ref p0::us)) (EP X pins σ Q) X.xe s:=by
 obtain⟨f',k,fd,ps,h1,h2,h3,h4⟩:=M0.ok
 have e:f'=f:=by
  have z:=h1.at_.symm.trans hf.at_
  cases z
  rfl
 subst e
 exact nA (vs:=V.ref p0::vs) (E:=xk ad E) h2 h3 h4 I (.cons rfl rv) ⟨G,p0,r,dx,d,l1,l2,ds,vs,rfl,hG,hR,rq,hl,h.impE fun c H' e=>⟨c,rfl,e⟩⟩ fun e s' hc=>hx pins H s e s' I hc
theorem xK (RC:RkC X.K A) (M0:MetOk X ad A m n M) (hN:X.N[i]? =some x) (hv:Vis X.env.scope x) (hd:(x==("__debug__":Str))=false) (hcd:(x==("__classdict__":Str))=false) (ha:MA X ad (a::es) fs) (hn:fs.length=n)
  (hst:starEach (a::es) X.env=(false,eval a X.env)::starEach es X.env) (hpl:(backTo cp (starEach es X.env)).any (·.1)=false) (hfm:methodCallForm ((a::es).length+([]:List Keyword).length) (backTo cp (starEach (a::es) X.env)) (backToKw cp (keywordEach [] X.env))=true) (hln:(ap.endLine==cp.line)=true)
  (I:Inv X pins σ H s) (hG:Same G H) (hS:SL X.K ad G H ρ σ) (hx:XP X ad σ E) {r:Rk} {p0 dx d l1 l2:Addr} (h1:σ[i]? =some (some (.ref p0))) (hR:RackIn X.K ad A G H p0 r dx d l1 l2) {W:List D->R}
  (hr:RK X.K ad G H (mG fs ρ W) Q E) (hq: ∀ ds G1 H1,Step G H G1 H1->RK X.K ad G1 H1 (W ds) Q E->RMK X.K ad A G1 H1 p0 dx d l1 l2 (M r ds) Q E):
  wpAny (model X.prog X.w) X.A (eval (.Call (.Attribute (.Name x p) m ap) (a::es) [] cp) X.env) (EP X pins σ Q) X.xe s:=by
 obtain⟨f,k,fd,ps,hm,_⟩:=M0.ok
 refine PySem.W.methodCall_KW (L2.thn (aV hN hv hd hcd pins s σ H (fun v H1=>v= .ref p0/\H1=H) I ⟨.ref p0,h1,rfl,rfl⟩) fun u s1 hz_=> ?_) (fA rfl hfm hln)
 obtain⟨v,H1,I1,r1,e1,e2⟩:=hz_
 subst e1;subst e2
 cases (show u=Value.ref p0 from r1)
 refine dX I1 hR.ins RC.cl hm (pE M0.no) ?_
 refine PySem.W.callWith_K (first:=[.ref p0]) (h₀:=X.base) I1.ok.mod.kin hm.kp (L2.thn (ha cp pins s1 σ H1 (fun vs H2=> ∃ ds G1,Step G H1 G1 H2/\aE X.K ad G1 ds vs/\ds.length=fs.length/\RK X.K ad G1 H2 (W ds) Q E) I1
  (jP hG hS hx hr fun vs ds G1 H2 st rq hl k=>⟨ds,G1,st,rq,hl,k⟩)) fun us s2 ⟨vs,H2,I2,r2,ds,G1,st,rq,hl,k⟩=>⟨I2.kIn, ?_⟩) hst hpl
 exact iF M0 I2 st.gh (hR.step st) r2 rq (hl.trans hn) hx (hq ds G1 H2 st k) hm
theorem uH (RC:RkC X.K A) (M0:MetOk X ad A m 0 M) (hN:X.N[i]? =some x) (hv:Vis X.env.scope x) (hd:(x==("__debug__":Str))=false) (hcd:(x==("__classdict__":Str))=false) (hln:(ap.endLine==cp.line)=true)
  (I:Inv X pins σ H s) (hG:Same G H) (hx:XP X ad σ E) {r:Rk} {p0 dx d l1 l2:Addr} (h1:σ[i]? =some (some (.ref p0))) (hR:RackIn X.K ad A G H p0 r dx d l1 l2) (hq:RMK X.K ad A G H p0 dx d l1 l2 (M r []) Q E):
  wpAny (model X.prog X.w) X.A (eval (.Call (.Attribute (.Name x p) m ap) [] [] cp) X.env) (EP X pins σ Q) X.xe s:=by
 obtain⟨f,k,fd,ps,hm,_⟩:=M0.ok
 refine PySem.W.methodCall_KW (L2.thn (aV hN hv hd hcd pins s σ H (fun v H1=>v= .ref p0/\H1=H) I ⟨.ref p0,h1,rfl,rfl⟩) fun u s1 hz_=> ?_) (fA rfl rfl hln)
 obtain⟨v,H1,I1,r1,e1,e2⟩:=hz_
 subst e1;subst e2
 cases (show u=Value.ref p0 from r1)
 refine dX I1 hR.ins RC.cl hm (pE M0.no) ?_
 exact PySem.W.callWith_K0 (first:=[.ref p0]) I1.kIn hm.kp (iF M0 I1 hG hR .nil aE.nil rfl hx hq hm)
theorem aHi (RC:RkC X.K A) (M0:MetOk X ad A m n M) (hN:X.N[i]? =some x) (hv:Vis X.env.scope x) (hd:(x==("__debug__":Str))=false) (hcd:(x==("__classdict__":Str))=false) (ha:MA X ad es fs) (hn:fs.length=n)
  (hst: ∀ a r,es=a::r->starEach (a::r) X.env=(false,eval a X.env)::starEach r X.env/\(backTo cp (starEach r X.env)).any (·.1)=false) (hl:es.length=fs.length) (hfm:methodCallForm (es.length+([]:List Keyword).length) (backTo cp (starEach es X.env)) (backToKw cp (keywordEach [] X.env))=true) (hln:(ap.endLine==cp.line)=true):
  ME X ad (.Call (.Attribute (.Name x p) m ap) es [] cp) (bQ A i M fs):=by
 intro pins s σ H Q I ⟨G,ρ,E,hG,hS,hx,hr⟩
 obtain⟨r,e,hr⟩:=iC hr
 obtain⟨p0,dx,d,l1,l2,h1,h2⟩:=hS.rk e
 cases es with
 | nil=>
  cases fs with
  | nil=>
   subst hn
   exact uH RC M0 hN hv hd hcd hln I hG hx h1 h2 (uG hr)
  | cons _ _=>cases hl
 | cons a r'=>exact xK RC M0 hN hv hd hcd ha hn (hst a r' rfl).1 (hst a r' rfl).2 hfm hln I hG hS hx h1 h2 hr fun ds G1 H1 st k=>uG k
end
theorem bR {l:List Expr} {a:Expr} (h:one l=some a):l=[a]:=by
 unfold one at h
 split at h
 ·cases h;rfl
 ·cases h
theorem uI {l:List Expr} {a b:Expr} (h:two l=some (a,b)):l=[a,b]:=by
 unfold two at h
 split at h
 ·cases h;rfl
 ·cases h
theorem aQ {e:Expr} {x:Str} {p:Pos} (h:bP e=some (x,p)):e= .Name x p:=by
 cases e<;>first | (cases h;rfl) | (cases h;done)
theorem xL {e:Expr} (h:bP e=none): ∀ x p,e≠ .Name x p:=fun x p z=>by subst z;cases h
theorem uJ {e:Expr} {lo hi:Option Expr} (h:yT e=some (lo,hi)): ∃ p,e= .Slice lo hi none p:=by
 cases e<;>try (cases h;done)
 rename_i a b c p
 cases c with
 | none=>cases h;exact⟨p,rfl⟩
 | some c=>cases h
theorem aI4 {dE:Expr->Option F} {C:SK.Ctx} {a:Expr} {f:F} (h:aF5 dE C a=some f): ∃ x p b q,a= .Call (.Name x p) [b] [] q/\glo C x=some (.py .range)/\dE b=some f:=by
 unfold aF5 at h
 split at h
 ·rename_i f' as kws q
  split at h
  ·rename_i hk
   obtain⟨⟨x,p⟩,h1,h⟩:=zBd h
   obtain⟨b,h2,h⟩:=zBd h
   split at h
   ·rename_i e1 e2
    exact⟨x,p,b,q,by rw [aQ h1,bR h2,List.isEmpty_iff.mp hk],e2,h⟩
   ·cases h
  ·cases h
 ·cases h
theorem dF {α:Type} {l:List α} (h:l.isEmpty=true):l=[]:=List.isEmpty_iff.mp h
noncomputable def iT:Expr->Prop
 | .Starred _ _=>False
 | _=>True
theorem aJ {e:Expr} {es:List Expr} {env:PySem.Env} (h:iT e):starEach (e::es) env=(false,eval e env)::starEach es env:=by
 cases e<;>first | rfl | exact h.elim
noncomputable def iG:Expr->Prop
 | .Set _ _ _=>False
 | _=>True
theorem aHj {C:SK.Ctx} {op:CmpOp} {e:Expr} {i:Nat} (h:inN C op e=some i): ∃ x p,e= .Name x p/\loc C x=some i:=by
 unfold inN at h
 split at h
 ·obtain⟨⟨x,p⟩,h1,h2⟩:=zBd h
  cases aQ h1
  exact⟨x,p,rfl,h2⟩
 ·cases h
theorem bK {e:Expr} {op:CmpOp} (h:iG e):behindInMarks op e=false:=by
 cases e<;>first | rfl | exact h.elim
theorem l6 {b c:Expr} {op op':CmpOp} (h:iG c):lastMarks [op,op'] [b,c]=false:=by
 show behindInMarks op' c=false
 exact bK h
theorem j0 {e:Expr} (h: ∀ a b c d,e≠ .Slice a b c d):rP e:=by
 intro o i
 cases e<;>first | rfl | exact absurd rfl (h _ _ _ _)
theorem aI {n:Nat} {C:SK.Ctx} {e:Expr} {f:F} (h:aT n C e=some f):iT e/\iG e/\ ∀ a b c d,e≠ .Slice a b c d:=by
 cases n with
 | zero=>cases h
 | succ n=>cases e<;>first | (cases h;done) | (refine⟨trivial,trivial, ?_⟩;intro a b c d z;cases z;done)
theorem cF {n:Nat} {C:SK.Ctx} {e:Expr} {f:F} (h:qC n C e=some f):iT e/\iG e:=by
 cases n with
 | zero=>cases h
 | succ n=>
  by_cases hn: ∃ x p,e= .Name x p
  ·obtain⟨x,p,rfl⟩:=hn
   exact⟨trivial,trivial⟩
  ·have:aT n C e=some f:=by
    rw [<-h]
    cases e<;>first | rfl | exact absurd ⟨_,_,rfl⟩ hn
   exact⟨(aI this).1,(aI this).2.1⟩
theorem iH {n:Nat} {C:SK.Ctx} {tt:Bool} {e:Expr} {f:F} (h:yW n C tt e=some f):iG e:=by
 cases n with
 | zero=>cases h
 | succ n=>cases e<;>first | trivial | exact(cF h).2
section
variable {ad:Ad}
def uK (ad:Ad) (n:Nat):Prop:= ∀ (X:Cx) (C:SK.Ctx) (e:Expr) (f:F),CtxOk X ad C->aT n C e=some f->ME X ad e f/\MT X ad e f/\ ∀ op es p,e= .BoolOp op es p->MW X ad e f
def aEn (ad:Ad) (n:Nat):Prop:= ∀ (X:Cx) (C:SK.Ctx) (e:Expr) (f:F),CtxOk X ad C->qC n C e=some f->ML X ad e f
def aHk (ad:Ad) (n:Nat):Prop:= ∀ (X:Cx) (C:SK.Ctx) (tg e:Expr) (tt:Bool) (f:F),CtxOk X ad C->(tt=true-> ∃ es k p,tg= .Tuple es k p)->yW n C tt e=some f->MI X ad tg e f/\((∀ x p,e≠ .Name x p)->MIG X ad tg e f)
variable {X:Cx} {C:SK.Ctx} {n:Nat}
theorem j4 (hE:uK ad n) (O:CtxOk X ad C): ∀ {es:List Expr} {fs:List F},cV (aT n C) es=some fs->MA X ad es fs/\ ∀ e∈es,iT e
 | [],fs,h=>by
  cases h
  exact⟨sC,fun _ h=>by cases h⟩
 | e::es,fs,h=>by
  unfold cV at h
  cases e1:aT n C e with
  | none=>rw [e1] at h;cases h
  | some f=>
   rw [e1] at h
   obtain⟨r,h1,h2⟩:=zMd h
   subst h2
   obtain⟨q1,q2⟩:=j4 hE O h1
   have ns:=(aI e1).1
   exact⟨jO (hE X C e f O e1).1 q1 (aJ ns),fun a ha=>by
    rcases av.mp ha with rfl | ha
    ·exact ns
    ·exact q2 a ha⟩
theorem dM {α β:Type} {f:α->Option β}: ∀ {l:List α} {r:List β},cV f l=some r->r.length=l.length
 | [],r,h=>by cases h;rfl
 | x::l,r,h=>by
  unfold cV at h
  cases e:f x with
  | none=>rw [e] at h;cases h
  | some y=>
   rw [e] at h
   obtain⟨r',h1,h2⟩:=zMd h
   subst h2
   simp [dM h1]
theorem gF {env:PySem.Env} {pos:Pos}: ∀ {es:List Expr},(∀ e∈es,iT e)->(backTo pos (starEach es env)).any (·.1)=false
 | [],_=>rfl
 | e::es,h=>by
  rw [aJ (h e (.head _))]
  show(false||(backTo pos (starEach es env)).any (·.1))=false
  rw [gF fun a ha=>h a (.tail _ ha)]
  rfl
theorem aKq (hE:uK ad n) (hL:aEn ad n) (O:CtxOk X ad C) {x:Str} {p:Py} {as:List Expr} {f:F} {np pos:Pos} (hg:glo C x=some (.py p)) (h:aBe (aT n C) (qC n C) C p as=some f):ME X ad (.Call (.Name x np) as [] pos) f:=by
 obtain⟨g1,g2,g3,g4⟩:=O.gl hg
 unfold aBe at h
 split at h
 ·have hx:=zBd h
  clear h
  obtain⟨a,h0,h⟩:=hx
  cases bR h0
  obtain⟨fa,h1,rfl⟩:=zMd h
  subst g3
  exact jR sH g1 g4 (by decide+kernel) (hL X C _ fa O h1) (by decide) g2 (aJ (cF h1).1)
 ·have hx:=zBd h
  clear h
  obtain⟨a,h0,h⟩:=hx
  cases bR h0
  obtain⟨fa,h1,rfl⟩:=zMd h
  subst g3
  exact sF aBq g1 g4 (by decide+kernel) (hL X C _ fa O h1) (by decide) g2 (aJ (cF h1).1)
 ·have hx:=zBd h
  clear h
  obtain⟨a,h0,h⟩:=hx
  cases bR h0
  obtain⟨fa,h1,rfl⟩:=zMd h
  subst g3
  exact sF sI g1 g4 (by decide+kernel) (hL X C _ fa O h1) (by decide) g2 (aJ (cF h1).1)
 ·have hx:=zBd h
  clear h
  obtain⟨a,h0,h⟩:=hx
  cases bR h0
  obtain⟨fa,h1,rfl⟩:=zMd h
  subst g3
  exact sF wM g1 g4 (by decide+kernel) (hL X C _ fa O h1) (by decide) g2 (aJ (cF h1).1)
 ·have hx:=zBd h
  clear h
  obtain⟨a,h0,h⟩:=hx
  cases bR h0
  obtain⟨fa,h1,rfl⟩:=zMd h
  subst g3
  exact jR (aBr O.hd) g1 g4 (by decide+kernel) (hL X C _ fa O h1) (by decide) g2 (aJ (cF h1).1)
 ·have hx:=zBd h
  clear h
  obtain⟨a,h0,h⟩:=hx
  cases bR h0
  obtain⟨fa,h1,rfl⟩:=zMd h
  subst g3
  exact jR (aBs O.hd) g1 g4 (by decide+kernel) (hL X C _ fa O h1) (by decide) g2 (aJ (cF h1).1)
 ·cases h
 ·cases h
 ·cases h
 ·cases h
 ·cases h
 ·have hx:=zBd h
  clear h
  obtain⟨⟨a,b⟩,h0,h⟩:=hx
  cases uI h0
  have hx:=zBd h
  clear h
  obtain⟨⟨tn,tp⟩,hv,h⟩:=hx
  cases aQ hv
  obtain⟨fa,h1,h⟩:=zBd h
  obtain⟨g,h2,h⟩:=zBd h
  obtain⟨P,h3,rfl⟩:=zMd h
  subst g3
  obtain⟨cv,c1,c2⟩:=zL O h2 h3
  exact tF O.exc g1 g4 c1 c2 (hE X C _ fa O h1).1 (aJ (aI h1).1)
 ·cases h
theorem nR {e:Expr} {f:F} (h:ME X ad e f) (ht: ∀ whole,isTrue e X.env whole=(do let v<-whole;standAt e.pos;holding [v] (truthy v))) (hb: ∀ op es p,e≠ .BoolOp op es p):ME X ad e f/\MT X ad e f/\ ∀ op es p,e= .BoolOp op es p->MW X ad e f:=
 ⟨h,zA h ht,fun op es p z=>absurd z (hb op es p)⟩
theorem uL {e:Expr} {f:F} (h:MW X ad e f):MT X ad e f:=fun pins s σ H Q I t=>h _ pins s σ H Q I t
theorem uM {tg:Expr} {xs:List Str} {k:Nat} (h:bH tg=some (xs,k)):xs.length=(if k=0 then 1 else k)/\((k != 0)=true-> ∃ es j p,tg= .Tuple es j p):=by
 cases tg<;>try (cases h;done)
 ·cases h
  exact⟨rfl,fun z=>absurd z (by decide)⟩
 ·rename_i es j p
  unfold bH at h
  obtain⟨ys,e1,e2⟩:=zBd h
  by_cases hl:2<=ys.length
  ·rw [if_pos hl] at e2
   cases e2
   exact⟨by rw [if_neg (by omega)],fun _=>⟨es,j,p,rfl⟩⟩
  ·rw [if_neg hl] at e2
   cases e2
theorem jA (hE:uK ad n) (hI:aHk ad n) (O:CtxOk X ad C) {elt tg it:Expr} {ifs:List Expr} {sc:Scope} {pos:Pos} {f:F} (h:aT (n+1) C (.ListComp elt [⟨tg,it,ifs,0⟩] sc pos)=some f):
  ∃ xs k cs fi fc fe,f=eW k cs fi fc fe/\CompSc X C sc xs cs/\MI X ad tg it fi/\(∀ a b c,it≠ .Set a b c)/\xs.length=(if k=0 then 1 else k)/\(∀ fp s3 H3 pins',PG (cX X (xs++aN sc) sc s3 H3 fp pins') tg (gTg X.K k))/\
   (∀ fp s3 H3 pins',MTs (cX X (xs++aN sc) sc s3 H3 fp pins') ad ifs fc)/\ ∀ fp s3 H3 pins',ME (cX X (xs++aN sc) sc s3 H3 fp pins') ad elt fe:=by
 have h':((bH tg).bind fun(xs,k)=>(yW n C (k != 0) it).bind fun fi=>if gZ sc xs then
    (cV (fun x=>dD C x) (aN sc)).bind fun cs=>(match ifs with
    | []=>some none
    | [c]=>(aT n { C with sc:=sc,N:=xs++aN sc } c).map some
    | _=>none).bind fun c=>(aT n { C with sc:=sc,N:=xs++aN sc } elt).map fun e=>eW k cs fi c e
   else none)=some f:=h
 clear h
 obtain⟨⟨xs,k⟩,e1,h⟩:=zBd h'
 obtain⟨fi,e2,h⟩:=zBd h
 obtain⟨l1,l2⟩:=uM e1
 by_cases hc:gZ sc xs=true
 ·rw [if_pos hc] at h
  obtain⟨cs,e3,h⟩:=zBd h
  obtain⟨fc,e4,h⟩:=zBd h
  obtain⟨fe,e5,e6⟩:=zMd h
  obtain⟨c1,c2,c3,c4,c5,c6,c7⟩:=fL hc
  have inn: ∀ fp s3 H3 pins',CtxOk (cX X (xs++aN sc) sc s3 H3 fp pins') ad { C with sc:=sc,N:=xs++aN sc }:=fun fp s3 H3 pins'=>aG0 O hc e3
  refine⟨xs,k,cs,fi,fc,fe,e6.symm,tG O hc e3,(hI X C tg it _ fi O l2 e2).1,fun a b c z=> ?_,l1,fun fp s3 H3 pins'=> ?_,fun fp s3 H3 pins'=> ?_,fun fp s3 H3 pins'=>(hE _ _ elt fe (inn fp s3 H3 pins') e5).1⟩
  ·subst z
   exact iH e2
  ·by_cases hcel:lK sc=[]
   case neg=>
    rcases c2 with z | ⟨z,l⟩
    ·exact absurd z hcel
    ·obtain⟨x,rfl⟩:=List.length_eq_one_iff.mp l
     refine aCe (X:=cX X ([x]++aN sc) sc s3 H3 fp pins') (x:=x) c5 e1 rfl rfl ?_ (decide_eq_true z)
     show(relabel sc X.env).names.lookup x=some .cell
     have e7:=bG (env:=X.env) (x:=x) (names:=sc.names)
     rw [c3 x (.head _),z] at e7
     exact e7
   refine aKf (X:=cX X (xs++aN sc) sc s3 H3 fp pins') O.calm c5 e1 fun i x hx=>⟨?_, ?_⟩
   ·show(xs++aN sc)[i]? =some x
    rw [bv (ay.mp hx).1]
    exact hx
   ·show(relabel sc X.env).names.lookup x=some .local
    have e7:=bG (env:=X.env) (x:=x) (names:=sc.names)
    rw [c3 x (List.mem_of_getElem? hx),hcel] at e7
    exact e7
  ·split at e4
   ·cases e4
    trivial
   ·obtain⟨g,e8,rfl⟩:=zMd e4
    exact(hE _ _ _ g (inn fp s3 H3 pins') e8).2.1
   ·cases e4
 ·rw [if_neg hc] at h
  cases h
theorem fB {C:SK.Ctx} {f:Str} {e:Expr} {i:Nat} (h:atF C f e=some i): ∃ x p q,e= .Attribute (.Name x p) f q/\loc C x=some i:=by
 unfold atF at h
 obtain⟨⟨o,g,q⟩,h1,h2⟩:=zBd h
 have h3:(if g=f then(bP o).bind fun(x,_)=>loc C x else none)=some i:=h2
 by_cases hg:g=f
 ·rw [if_pos hg] at h3
  subst hg
  obtain⟨⟨x,p⟩,h4,h5⟩:=zBd h3
  cases aQ h4
  refine⟨x,p,q, ?_,h5⟩
  cases e<;>first | (cases h1;rfl) | (cases h1;done)
 ·rw [if_neg hg] at h3
  cases h3
theorem j5 {C:SK.Ctx} {e:Expr} {i:Nat} {b:Bool} (h:aEk C e=some (i,b)): ∃ x p q,e= .Attribute (.Name x p) (if b then "done" else "undone") q/\loc C x=some i:=by
 unfold aEk at h
 split at h
 ·rename_i j hj
  cases h
  exact fB hj
 ·obtain⟨j,h1,h2⟩:=zMd h
  cases h2
  exact fB h1
theorem nS {es:List Expr} {cp:Pos} {env:PySem.Env} (hs: ∀ e∈es,iT e) (hl:es.length<20):methodCallForm (es.length+([]:List Keyword).length) (backTo cp (starEach es env)) (backToKw cp (keywordEach [] env))=true:=by
 have all: ∀ es:List Expr,(∀ e∈es,iT e)->(backTo cp (starEach es env)).all (!·.1)=true/\(backTo cp (starEach es env)).any (·.1)=false:=by
  intro es
  induction es with
  | nil=>intro _;exact⟨rfl,rfl⟩
  | cons e es ih=>
   intro hs
   obtain⟨a,b⟩:=ih fun e he=>hs e (.tail _ he)
   rw [aJ (hs e (.head _))]
   exact⟨a,b⟩
 unfold methodCallForm
 rw [(all es hs).1]
 show(true&&true&&decide (es.length+0+0<30))=true
 simp
 omega
theorem j6 {es:List Expr} {cp:Pos} {env:PySem.Env} (hs: ∀ e∈es,iT e):(backTo cp (starEach es env)).any (·.1)=false:=by
 induction es with
 | nil=>rfl
 | cons e es ih=>
  rw [aJ (hs e (.head _))]
  exact ih fun e he=>hs e (.tail _ he)
theorem aKr {X:Cx} {x:Str} {p pos ap cp:Pos} {e:Expr} (h:iT e) (hl:(ap.endLine==cp.line)=true):M1 X (.Attribute (.Name x p) "held" pos) "get" ap e cp:=by
 refine⟨rfl, ?_,hl, ?_⟩
 ·rw [aJ h];rfl
 ·rw [aJ h];rfl
theorem uN (hE:uK ad n) (O:CtxOk X ad C) {e:Expr} {f:F} (h:rkE (aT n C) C e=some f):ME X ad e f/\MT X ad e f/\ ∀ op es p,e= .BoolOp op es p->MW X ad e f:=by
 unfold rkE at h
 cases hc:rkc C with
 | none=>rw [hc] at h;cases h
 | some am=>
  obtain⟨A,ms⟩:=am
  rw [hc] at h
  have hcls:aKk X ad "Rack" (.cls A ms):=by
   unfold rkc at hc
   split at hc
   ·rename_i a' ms' e'
    cases hc
    exact(O.gt _ _ e').2
   ·cases hc
  obtain⟨_,RC,MO⟩:=hcls
  simp only at h
  split at h
  ·rename_i a op cs pos
   have hx:=zBd h
   clear h
   obtain⟨b,h0,h⟩:=hx
   cases bR h0
   unfold aF6 at h
   split at h
   ·rename_i neg hneg
    have hx:=zBd h
    clear h
    obtain⟨i,h1,h⟩:=hx
    obtain⟨g,h2,rfl⟩:=zMd h
    obtain⟨x,p,q,rfl,e1⟩:=fB h1
    obtain⟨v1,v2,v3,v4⟩:=O.vis x i e1
    have hop:op=if neg then .NotIn else .In:=by
     cases op<;>first | (cases hneg;rfl) | (cases hneg;done)
    subst hop
    have go:=aHg (p:=p) (ap:=q) O.un RC v1 v2 v3 v4 (hE X C _ g O h2).1 neg
    exact⟨aE1 go (bK trivial),jY (bK trivial) fun I hG hS hx hr=>go _ _ _ _ _ I ⟨_,_,_,hG,hS,hx,hr⟩,fun _ _ _ z=>nomatch z⟩
   ·have hx:=zBd h
    clear h
    obtain⟨⟨i,bb⟩,h1,h⟩:=hx
    obtain⟨g,h2,rfl⟩:=zMd h
    obtain⟨x,p,q,rfl,e1⟩:=j5 h1
    obtain⟨v1,v2,v3,v4⟩:=O.vis x i e1
    have la:=(zS (ad:=ad) (p:=p) (pos:=q) RC v1 v2 v3 v4 bb).lk
    have lb:=(hE X C _ g O h2).1.look
    have m:=(aI h2).2.1
    exact⟨t9 O.un la lb (bK m),uA O.un la lb (bK m),fun _ _ _ z=>nomatch z⟩
  ·rename_i a b pos
   have hx:=zBd h
   clear h
   obtain⟨i,h1,h⟩:=hx
   obtain⟨g,h2,rfl⟩:=zMd h
   obtain⟨x,p,q,rfl,e1⟩:=fB h1
   obtain⟨v1,v2,v3,v4⟩:=O.vis x i e1
   exact nR (aCs O.un RC v1 v2 v3 v4 (hE X C _ g O h2).1 (j0 (aI h2).2.2)) (fun _=>rfl) (fun _ _ _ z=>nomatch z)
  ·rename_i fe as kws cp
   split at h
   ·rename_i hk
    cases List.isEmpty_iff.mp hk
    split at h
    ·rename_i o m ap
     split at h
     ·rename_i hl
      unfold aF7 at h
      split at h
      ·rename_i x p hv
       cases aQ hv
       have hx:=zBd h
       clear h
       obtain⟨i,h1,h⟩:=hx
       have hx:=zBd h
       clear h
       obtain⟨⟨n0,M⟩,h2,h⟩:=hx
       obtain⟨v1,v2,v3,v4⟩:=O.vis x i h1
       simp only at h
       split at h
       ·rename_i hlen
        have hx:=zBd h
        clear h
        obtain⟨fs,h3,h⟩:=hx
        split at h
        ·rename_i hn
         cases h
         obtain⟨ma,ns⟩:=j4 hE O h3
         exact nR (aHi RC (MO m n0 M h2) v1 v2 v3 v4 ma hn (fun a r e=>by
          subst e
          exact⟨aJ (ns a (.head _)),j6 fun e he=>ns e (.tail _ he)⟩) (dM h3).symm (nS ns hlen) hl) (fun _=>rfl) (fun _ _ _ z=>nomatch z)
        ·cases h
       ·cases h
      ·split at h
       ·rename_i hm
        subst hm
        have hx:=zBd h
        clear h
        obtain⟨i,h1,h⟩:=hx
        have hx:=zBd h
        clear h
        obtain⟨a,h0,h⟩:=hx
        cases bR h0
        obtain⟨g,h2,rfl⟩:=zMd h
        obtain⟨x,p,q,rfl,e1⟩:=fB h1
        obtain⟨v1,v2,v3,v4⟩:=O.vis x i e1
        exact nR (aCt O.un RC v1 v2 v3 v4 (hE X C _ g O h2).1 (aKr (aI h2).1 hl)) (fun _=>rfl) (fun _ _ _ z=>nomatch z)
       ·cases h
     ·cases h
    ·rename_i x p
     have hx:=zBd h
     clear h
     obtain⟨a,h0,h⟩:=hx
     cases bR h0
     unfold aL3 at h
     split at h
     ·rename_i eg
      obtain⟨i,h1,rfl⟩:=zMd h
      obtain⟨y,py,q,rfl,e1⟩:=fB h1
      obtain⟨v1,v2,v3,v4⟩:=O.vis y i e1
      obtain⟨g1,g2,g3,g4⟩:=O.gl eg
      cases (show x="sorted" from g3)
      exact nR (aCv O.calm RC g1 g4 v1 v2 v3 v4) (fun _=>rfl) (fun _ _ _ z=>nomatch z)
     ·rename_i eg
      have hx:=zMd h
      clear h
      obtain⟨⟨i,bb⟩,h1,rfl⟩:=hx
      obtain⟨y,py,q,rfl,e1⟩:=j5 h1
      obtain⟨v1,v2,v3,v4⟩:=O.vis y i e1
      obtain⟨g1,g2,g3,g4⟩:=O.gl eg
      cases (show x="len" from g3)
      exact nR (jR sH g1 g4 (by decide+kernel) (zS RC v1 v2 v3 v4 bb) (by decide) g2 rfl) (fun _=>rfl) (fun _ _ _ z=>nomatch z)
     ·cases h
    ·cases h
   ·cases h
  ·cases h
theorem aKs (hE:uK ad n) (hL:aEn ad n) (hI:aHk ad n):uK ad (n+1):=by
 intro X C e f O h
 unfold aT at h
 split at h
 ·-- a name
  rename_i x pos
  refine nR ?_ (fun _=>rfl) (fun _ _ _ z=>nomatch z)
  cases e1:loc C x with
  | some i=>
   rw [e1] at h
   cases h
   obtain⟨v1,v2,v3,v4⟩:=O.vis x i e1
   exact oI v1 v2 v3 v4
  | none=>
   rw [e1] at h
   simp only at h
   split at h
   ·rename_i d e2
    cases h
    obtain⟨g1,g2,u,v,g3,g4,g5⟩:=O.gl e2
    exact r8 g1 g3 g4 g5 g2
   ·rename_i k0 n0 f0 e2
    cases h
    obtain⟨g1,g2,r,f,T,hr,hf⟩:=O.gl e2
    subst hf
    exact r8 (v:= .ref (ad.fnA k0)) g1 T.mg rfl (fun G=>by unfold Rep;rfl) g2
   ·cases h
 ·obtain⟨d,h1,rfl⟩:=zMd h
  exact nR (oJ h1) (fun _=>rfl) (fun _ _ _ z=>nomatch z)
 ·obtain⟨fa,h1,h⟩:=zBd h
  obtain⟨fb,h2,rfl⟩:=zMd h
  exact nR (y6 (hE X C _ fa O h1).1 (hE X C _ fb O h2).1) (fun _=>rfl) (fun _ _ _ z=>nomatch z)
 ·obtain⟨fa,h1,h⟩:=zBd h
  obtain⟨q1,q2,_⟩:=hE X C _ fa O h1
  split at h
  ·cases h;exact⟨aGb q1,zB q2,fun _ _ _ z=>nomatch z⟩
  ·cases h;exact nR (aGc q1) (fun _=>rfl) (fun _ _ _ z=>nomatch z)
  ·cases h
 ·rename_i op es pos
  split at h
  ·rename_i a b
   obtain⟨fa,h1,h⟩:=zBd h
   obtain⟨fb,h2,rfl⟩:=zMd h
   obtain⟨q1,q2,_⟩:=hE X C _ fa O h1
   obtain⟨r1,r2,_⟩:=hE X C _ fb O h2
   cases op with
   | And=>
    have W:MW X ad (.BoolOp .And [a,b] pos) (mW fa fb):=zC q2 (sA r2)
    exact⟨y8 q1 (y9 r1),uL W,fun _ _ _ _=>W⟩
   | Or=>
    have W:MW X ad (.BoolOp .Or [a,b] pos) (rOr fa fb):=aBp q2 (sA r2)
    exact⟨aGe q1 (y9 r1),uL W,fun _ _ _ _=>W⟩
  ·rename_i a b c r
   obtain⟨fa,h1,h⟩:=zBd h
   obtain⟨fb,h2,rfl⟩:=zMd h
   obtain⟨q1,q2,_⟩:=hE X C _ fa O h1
   obtain⟨r1,r2,r3⟩:=hE X C _ fb O h2
   cases op with
   | And=>
    have W:MW X ad (.BoolOp .And (a::b::c::r) pos) (mW fa fb):=zC q2 (r3 _ _ _ rfl)
    exact⟨y8 q1 r1,uL W,fun _ _ _ _=>W⟩
   | Or=>
    have W:MW X ad (.BoolOp .Or (a::b::c::r) pos) (rOr fa fb):=aBp q2 (r3 _ _ _ rfl)
    exact⟨aGe q1 r1,uL W,fun _ _ _ _=>W⟩
  ·cases h
 ·split at h
  ·rename_i fr hfr
   cases h
   exact uN hE O hfr
  rename_i hno_
  clear hno_
  split at h
  ·have hx:=zBd h
   clear h
   obtain⟨b,h0,h⟩:=hx
   cases bR h0
   obtain⟨fa,h1,h⟩:=zBd h
   have look: ∀ {e:Expr} {g:F},(if bsN C e=true then qC n C e else aT n C e)=some g->MLk X ad e g/\iG e:=fun {e g} h=>by
    split at h
    ·exact⟨(hL X C _ g O h).lk,(cF h).2⟩
    ·exact⟨(hE X C _ g O h).1.look,(aI h).2.1⟩
   have la:=(look h1).1
   split at h
   ·rename_i i hi
    cases h
    obtain⟨x,p,rfl,e1⟩:=aHj hi
    obtain⟨v1,v2,v3,v4⟩:=O.vis x i e1
    exact⟨aG8 v1 v2 v3 v4 O.un la (bK trivial),aG9 v1 v2 v3 v4 O.un la (bK trivial),fun _ _ _ z=>nomatch z⟩
   ·obtain⟨fb,h2,rfl⟩:=zMd h
    obtain⟨lb,m⟩:=look h2
    exact⟨t9 O.un la lb (bK m),uA O.un la lb (bK m),fun _ _ _ z=>nomatch z⟩
  ·have hx:=zBd h
   clear h
   obtain⟨⟨b,c⟩,h0,h⟩:=hx
   cases uI h0
   obtain⟨fa,h1,h⟩:=zBd h
   obtain⟨fb,h2,h⟩:=zBd h
   obtain⟨fc,h3,rfl⟩:=zMd h
   exact⟨wJ O.un (hE X C _ fa O h1).1 (hE X C _ fb O h2).1 (hE X C _ fc O h3).1 (l6 (aI h3).2.1),wK O.un (hE X C _ fa O h1).1 (hE X C _ fb O h2).1 (hE X C _ fc O h3).1 (l6 (aI h3).2.1),fun _ _ _ z=>nomatch z⟩
  ·cases h
 ·obtain⟨fc,h1,h⟩:=zBd h
  obtain⟨fa,h2,h⟩:=zBd h
  obtain⟨fb,h3,rfl⟩:=zMd h
  obtain⟨_,c2,_⟩:=hE X C _ fc O h1
  obtain⟨a1,a2,_⟩:=hE X C _ fa O h2
  obtain⟨b1,b2,_⟩:=hE X C _ fb O h3
  exact⟨wL c2 a1 b1,w8 c2 a2 b2,fun _ _ _ z=>nomatch z⟩
 ·split at h
  ·rename_i hl
   obtain⟨fs,h1,rfl⟩:=zMd h
   exact nR (aGj (j4 hE O h1).1 (by rw [dM h1];exact hl)) (fun _=>rfl) (fun _ _ _ z=>nomatch z)
  ·cases h
 ·split at h
  ·rename_i hl
   obtain⟨fs,h1,rfl⟩:=zMd h
   exact nR (zD (j4 hE O h1).1 (by rw [dM h1];exact hl)) (fun _=>rfl) (fun _ _ _ z=>nomatch z)
  ·cases h
 ·-- o[..]
  rename_i a b pos
  split at h
  ·rename_i fr hfr
   cases h
   exact uN hE O hfr
  rename_i hno_
  clear hno_
  have hx:=zBd h
  clear h
  obtain⟨fa,h1,h⟩:=hx
  split at h
  ·rename_i lo hi hv
   obtain⟨p,rfl⟩:=uJ hv
   obtain⟨fl,h2,h⟩:=zBd h
   obtain⟨fh,h3,rfl⟩:=zMd h
   refine nR (aGm (hL X C _ fa O h1).lk ?_ ?_) (fun _=>rfl) (fun _ _ _ z=>nomatch z)
   ·split at h2
    ·cases h2;trivial
    ·obtain⟨k,h4,rfl⟩:=zMd h2
     exact(hE X C _ k O h4).1
   ·split at h3
    ·cases h3;trivial
    ·obtain⟨k,h4,rfl⟩:=zMd h3
     exact(hE X C _ k O h4).1
  ·obtain⟨fb,h2,rfl⟩:=zMd h
   exact nR (aGk (hL X C _ fa O h1).lk (hE X C _ fb O h2).1 (j0 (aI h2).2.2)) (fun _=>rfl) (fun _ _ _ z=>nomatch z)
 ·-- a comprehension
  rename_i elt gens sc pos
  refine nR ?_ (fun _=>rfl) (fun _ _ _ z=>nomatch z)
  split at h
  ·rename_i tg it ifs as
   split at h
   ·rename_i ha
    subst ha
    obtain⟨xs,k,cs,fi,fc,fe,rfl,S,hi,hset,hxs,hg,hts,he⟩:=jA (pos:=pos) hE hI O h
    exact aBw O.calm S hi hset hxs hg hts he
   ·cases h
  ·cases h
 ·-- a call
  rename_i f' as kws pos
  split at h
  ·rename_i fr hfr
   cases h
   exact uN hE O hfr
  rename_i hno_
  clear hno_
  refine nR ?_ (fun _=>rfl) (fun _ _ _ z=>nomatch z)
  split at h
  ·rename_i hkw
   cases dF hkw
   split at h
   ·rename_i x np
    split at h
    ·rename_i i e1
     by_cases hem:as.isEmpty=true
     ·rw [if_pos hem] at h;cases h
     rw [if_neg hem] at h
     obtain⟨fs,h1,rfl⟩:=zMd h
     obtain⟨q1,q2⟩:=j4 hE O h1
     obtain⟨v1,v2,v3,v4⟩:=O.vis x i e1
     cases as with
     | nil=>exact absurd rfl hem
     | cons a es=>exact oR O.fnv (oI v1 v2 v3 v4) q1 (aJ (q2 a (.head _))) (gF fun e he=>q2 e (.tail _ he)) rfl
    ·split at h
     ·rename_i k1 k2 fn e2
      by_cases hem:as.isEmpty=true
      ·rw [if_pos hem] at h;cases h
      rw [if_neg hem] at h
      obtain⟨fs,h1,h⟩:=zBd h
      split at h
      ·rename_i hk
       cases h
       obtain⟨g1,g2,r,fa,T,hr,_⟩:=O.gl e2
       obtain⟨q1,q2⟩:=j4 hE O h1
       cases as with
       | nil=>exact absurd rfl hem
       | cons a es=>exact aBt T hr g1 g2 q1 hk (aJ (q2 a (.head _))) (gF fun e he=>q2 e (.tail _ he))
      ·cases h
     ·rename_i p e2
      exact aKq hE hL O e2 h
     ·cases h
   ·rename_i a b sp
    by_cases hem:as.isEmpty=true
    ·rw [if_pos hem] at h;cases h
    rw [if_neg hem] at h
    obtain⟨g,h1,h⟩:=zBd h
    obtain⟨fs,h2,rfl⟩:=zMd h
    obtain⟨q1,q2⟩:=j4 hE O h2
    cases as with
    | nil=>exact absurd rfl hem
    | cons a es=>exact oR O.fnv (hE X C _ g O h1).1 q1 (aJ (q2 a (.head _))) (gF fun e he=>q2 e (.tail _ he)) rfl
   ·rename_i o m ap
    split at h
    ·rename_i hem
     cases dF hem
     split at h
     ·rename_i hc
      obtain⟨rfl,h0,hl⟩:=hc
      obtain⟨fo,h1,rfl⟩:=zMd h
      refine aCi (hE X C _ fo O h1).1 ?_ hl
      cases o<;>first | rfl | (cases h0;done)
     ·cases h
    have hx:=zBd h
    clear h
    obtain⟨a,h0,h⟩:=hx
    cases bR h0
    split at h
    ·rename_i hc
     rw [aw] at hc
     obtain⟨fo,h1,h⟩:=zBd h
     obtain⟨fa,h2,h⟩:=zBd h
     have base: ∀ m,attributeBase o m X.env (eval o X.env)=eval o X.env:=by
      intro m
      have h0:=hc.1
      cases o<;>first | rfl | (cases h0;done)
     split at h
     ·rename_i hm
      cases h
      subst hm
      exact oY O.un (hL X C _ fo O h1) (hE X C _ fa O h2).1 (aJ (aI h2).1) (base _) hc.2
     ·split at h
      ·rename_i hm
       cases h
       subst hm
       exact oZ O.un (hL X C _ fo O h1) (hE X C _ fa O h2).1 (aJ (aI h2).1) (base _) hc.2
      ·cases h
    ·cases h
   ·cases h
  ·cases h
 ·cases h
theorem aKt (hE:uK ad n):aEn ad (n+1):=by
 intro X C e f O h
 unfold qC at h
 split at h
 ·rename_i x p
  cases e1:loc C x with
  | some i=>
   rw [e1] at h
   cases h
   obtain⟨v1,v2,v3,v4⟩:=O.vis x i e1
   exact sD v1 v2 v3 v4
  | none=>
   rw [e1] at h
   exact(hE X C _ f O h).1.ml
 ·exact(hE X C _ f O h).1.ml
theorem aCw (hE: ∀ m,m<n->uK ad m) {X:Cx} {C:SK.Ctx} {e:Expr} {f:F} (O:CtxOk X ad C) (hn: ∀ x p,e≠ .Name x p) (h:qC n C e=some f):ME X ad e f:=by
 cases n with
 | zero=>cases h
 | succ n=>
  have:aT n C e=some f:=by
   rw [<-h]
   cases e<;>first | rfl | exact absurd rfl (hn _ _)
  exact(hE n (Nat.lt_succ_self _) X C e f O this).1
theorem aKu (hE: ∀ m,m<n+1->uK ad m) (hL:aEn ad n):aHk ad (n+1):=by
 intro X C tg e tt f O htt h
 have hEn:=hE n (Nat.lt_succ_self _)
 unfold yW at h
 have it: ∀ {x:Str} {as:List Expr} {np q:Pos},rY (aT n C) C tt x as=some f->MI X ad tg (.Call (.Name x np) as [] q) f/\MIG X ad tg (.Call (.Name x np) as [] q) f:=by
  intro x as np q h
  unfold rY at h
  split at h
  ·rename_i a eg
   obtain⟨fa,h1,rfl⟩:=zMd h
   obtain⟨g1,g2,g3,g4⟩:=O.gl eg
   subst g3
   have me:=(hEn X C _ fa O h1).1
   exact⟨wS g1 g4 me (aJ (aI h1).1),sS g1 g4 me (aJ (aI h1).1)⟩
  ·rename_i a b eg
   split at h
   ·rename_i ht
    obtain⟨fa,h1,h⟩:=zBd h
    obtain⟨fb,h2,rfl⟩:=zMd h
    obtain⟨g1,g2,g3,g4⟩:=O.gl eg
    subst g3
    obtain⟨es,k,p,rfl⟩:=htt ht
    have ma:=(hEn X C _ fa O h1).1
    have mb:=(hEn X C _ fb O h2).1
    exact⟨aG1 g1 g4 ma mb (aJ (aI h1).1) (aJ (aI h2).1),aCh g1 g4 ma mb (aJ (aI h1).1) (aJ (aI h2).1)⟩
   ·cases h
  ·cases h
 split at h
 ·rename_i f' as kws q
  split at h
  ·rename_i x p
   split at h
   ·exact⟨(it h).1,fun _=>(it h).2⟩
   ·exact⟨(it h).1,fun _=>(it h).2⟩
   ·exact⟨(it h).1,fun _=>(it h).2⟩
   ·have me:=(hEn X C _ f O h).1
    exact⟨sQ me.ml,fun _=>jS me⟩
  ·have me:=(hEn X C _ f O h).1
   exact⟨sQ me.ml,fun _=>jS me⟩
 ·refine⟨sQ (hL X C _ f O h),fun hn=>jS (aCw (fun m hm=>hE m (by omega)) O hn h)⟩
theorem bV: ∀ n,uK ad n/\aEn ad n/\aHk ad n:=by
 have main: ∀ n, ∀ m,m<=n->uK ad m/\aEn ad m/\aHk ad m:=by
  intro n
  induction n with
  | zero=>
   intro m hm
   have:m=0:=by omega
   subst this
   refine⟨?_, ?_, ?_⟩
   ·intro X C e f O h
    unfold aT at h
    cases h
   ·intro X C e f O h
    unfold qC at h
    cases h
   ·intro X C tg e tt f O _ h
    unfold yW at h
    cases h
  | succ n ih=>
   intro m hm
   by_cases hmn:m<=n
   ·exact ih m hmn
   ·have:m=n+1:=by omega
    subst this
    obtain⟨a,b,c⟩:=ih n (ak _)
    exact⟨aKs a b c,aKt a,aKu (fun m hm=>(ih m (by omega)).1) b⟩
 exact fun n=>main n n (ak _)
end
noncomputable abbrev aI5:List Value:=[.type "ValueError", .type "Exception", .type "BaseException", .type "object"]
structure StOk (X:Cx) (ad:Ad) (C:SK.Ctx):Prop where
 cx:CtxOk X ad C
 fn: ∀ x,X.fn x=true
 sc:X.env.scope=C.sc
 lc: ∀ x i,loc C x=some i->Loc X.env.scope x
 exm: ∀ c,exmOne X.K (.ref (ad.cls c)) (.ref (ad.cls 0))=some true
 exi: ∀ c,excIn X.K (ad.cls c) aI5 "ValueError.__new__"=true
noncomputable def Zt (ad:Ad) (E₀:XK) (t:Bool):(St->Nat->Hp->Prop)->Prop:=fun E=>t=false-> ∀ σ c H,E σ c H->E₀ (.ref (ad.cls c)) none H
section
variable {X:Cx} {ad:Ad} {C:SK.Ctx} {E₀:XK} {t:Bool} {e it tg:Expr} {f:F} {g h:FS} {x:Str} {i:Nat} {pos pos':Pos} {st:Stmt}
theorem StOk.nm (O:StOk X ad C) (h:loc C x=some i):aGu X x i:=⟨(O.cx.vis x i h).1,O.lc x i h, .inl (O.fn x)⟩
theorem StOk.nms (O:StOk X ad C): ∀ {xs:List Str} {is:List Nat},cV (fun x=>loc C x) xs=some is->NmsOk X xs is
 | [],_,h=>by cases h;exact .nil
 | x::xs,is,h=>by
  unfold cV at h
  cases e:loc C x with
  | none=>rw [e] at h;cases h
  | some j=>
   rw [e] at h
   obtain⟨r,h1,h2⟩:=zMd h
   subst h2
   exact .cons (O.nm e) (O.nms h1)
theorem qO {elt:Expr} {gens:List Comprehension} {sc:Scope} {cpos:Pos} {line:Nat} {env:PySem.Env}: ∃ b,swapsWith (.ListComp elt gens sc cpos) (some (.Name x pos')) line env=pure b:=⟨_,rfl⟩
theorem uO (O:StOk X ad C) (h:aT 50 C e=some f) (hi:loc C x=some i):PS X (.Assign [.Name x pos'] e pos) (aAs (tE X ad f) (gO i)):=by
 obtain⟨h1,h2,h3⟩:=bV (ad:=ad) 49
 obtain⟨k1,_,_⟩:=bV (ad:=ad) 50
 have nm:=O.nm hi
 have me:=(k1 X C e f O.cx h).1
 by_cases hc: ∃ elt gens sc cpos,e= .ListComp elt gens sc cpos
 ·obtain⟨elt,gens,sc,cpos,rfl⟩:=hc
  obtain⟨b,hb⟩:=qO (x:=x) (pos':=pos') (elt:=elt) (gens:=gens) (sc:=sc) (cpos:=cpos) (line:=pos.line) (env:=X.env)
  cases b with
  | false=>exact kH O.cx.nd nm.1 nm.2.1 me hb nm.2.2
  | true=>
   have hgen: ∃ tg it ifs,gens=[⟨tg,it,ifs,0⟩]:=by
    unfold aT at h
    simp only at h
    split at h
    ·rename_i tg it ifs as
     split at h
     ·rename_i ha
      subst ha
      exact⟨_,_,_,rfl⟩
     ·cases h
    ·cases h
   obtain⟨tg,it,ifs,rfl⟩:=hgen
   obtain⟨xs,k,cs,fi,fc,fe,rfl,S,hi',hset,hxs,hg,hts,he⟩:=jA h1 h3 O.cx h
   exact aB9 O.cx.nd nm O.cx.calm S hi' hset hxs hg hts he hb
 ·refine kH O.cx.nd nm.1 nm.2.1 me ?_ nm.2.2
  have nf:=aI h
  cases e<;>first | rfl | exact absurd ⟨_,_,_,_,rfl⟩ hc | (unfold aT at h;cases h;done)
theorem uP {Z:(St->Nat->Hp->Prop)->Prop} (P:PS X st (aAs (tE X ad f) (gO i))):MS X ad Z st (mH i f):=by
 refine PS.imp P ?_
 rintro D' σ H ⟨G₀,G,ρ,E,S,hx,hr⟩
 exact eZ S hx hr fun v d G1 H1 st r k=>k _ G1 H1 ((S.step st).set r)
theorem aCx {Z:(St->Nat->Hp->Prop)->Prop} (P:PS X st (aAs (tE X ad f) (gO i))):MS X ad Z st (vP i f):=by
 refine PS.imp P ?_
 rintro D' σ H ⟨G₀,G,ρ,E,S,hx,hr⟩
 exact zH S hx hr
noncomputable def aHl (K:PySem.W.Frag) (n:Nat) (t:TGs):TG:=fun v σ H Q=> ∃ a xs,v= .ref a/\SqL K H a xs/\xs.length=n/\t xs σ H Q
theorem aCy {es:List Expr} {k:Nat} {t:TGs} {n:Nat} (hc:X.calm=true) (h:PGs X es t) (hn:(assignEach es X.env).length=n) (hst:(assignEach es X.env).findIdx? (·.1)=none):PG X (.Tuple es k pos) (aHl X.K n t):=by
 intro pins s σ H v u Q I r hw
 obtain⟨a,xs,e1,hq,hl,hw⟩:=hw
 subst e1
 cases r
 obtain⟨its,rv,ht,hz⟩:=I.list hq
 have hlen:its.toArray.size=n:=by simp [<-hl,rv.length]
 rw [assign_Tuple]
 refine ae (wpAny_standAt ?_)
 unfold unpack
 rw [hn,hst, <-hlen]
 refine ae (wpAny_holding (kun_itemsOf (I.ok.hd hc) ht.isList fun h' hx=> ?_))
 have I1:Inv X pins σ H { s with heap:=h' }:=I.kept (t':=s.toks) fun b o e=>hx b o (bj (ai e)) e
 exact h pins _ σ H xs _ Q I1 (by simpa using rv) hw
theorem aKv {g1 g2:TG} (h1:PG X tg g1) (h2:PG X tg g2):PG X tg (fun v σ H Q=>g1 v σ H Q\/g2 v σ H Q):=by
 intro pins s σ H v u Q I r h
 rcases h with h | h
 ·exact h1 pins s σ H v u Q I r h
 ·exact h2 pins s σ H v u Q I r h
theorem aCz {Z:(St->Nat->Hp->Prop)->Prop} {es:List Expr} {k j:Nat} {tp:Pos} {xs:List Str} {is:List Nat} (O:StOk X ad C) (he:ME X ad e f) (hs:swapsWithSole [.Tuple es j tp] e pos.line X.env=pure false) (hw:swappedStores [.Tuple es j tp] e X.env=pure none) (ht:bH (.Tuple es j tp)=some (xs,k)) (hn:NmsOk X xs is):MS X ad Z (.Assign [.Tuple es j tp] e pos) (aA9 is f):=by
 obtain⟨P,hk⟩:=aB8 O.cx.calm O.cx.nd ht hn
 have k0:k≠0:=by
  unfold bH at ht
  obtain⟨ys,e1,e2⟩:=zBd ht
  by_cases hl:2<=ys.length
  ·rw [if_pos hl] at e2
   cases e2
   omega
  ·rw [if_neg hl] at e2
   cases e2
 have hb:(k==0)=false:=by simpa using k0
 have PL:PG X (.Tuple es j tp) (aHl X.K is.length (gIs is)):=by
  unfold bH at ht
  obtain⟨ys,e1,e2⟩:=zBd ht
  by_cases hl:2<=ys.length
  ·rw [if_pos hl] at e2
   cases e2
   obtain⟨q1,q2⟩:=fK (X:=X) e1
   exact aCy O.cx.calm (sU O.cx.nd e1 hn) (by rw [q1,hn.len]) q2
  ·rw [if_neg hl] at e2
   cases e2
 refine PS.imp (yL he (aKv P PL) hs hw rfl) ?_
 rintro D' σ H ⟨G₀,G,ρ,E,S,hx,hr⟩
 unfold aA9 at hr
 refine eZ S hx hr fun v d G1 H1 st r q=> ?_
 cases d<;>try exact ba q
 case lst ds=>
  have q':OKo X ad G₀ (if ds.length=is.length then .nx (setN is ds ρ) else .rt .bad) D' E:=q
  by_cases hl:ds.length=is.length
  ·rw [if_pos hl] at q'
   unfold Rep at r
   obtain⟨a,vs,rfl,hq,rq⟩:=r
   exact .inr ⟨a,vs,rfl,st.gh.seq hq,by rw [rq.length,hl],sT (by rw [rq.length,hl]) (q' _ G1 H1 ((S.step st).setN rq))⟩
  ·rw [if_neg hl] at q'
   exact q'.elim
 rename_i ds
 refine .inl ?_
 have q':OKo X ad G₀ (if ds.length=is.length then .nx (setN is ds ρ) else .rt .bad) D' E:=q
 by_cases hl:ds.length=is.length
 ·rw [if_pos hl] at q'
  refine zJ (ρ1:=setN is ds ρ) hk ?_ (S.step st) r fun σ1 S1=>q' σ1 G1 H1 S1
  rw [hb]
  have e0:iP is false (.tup ds) ρ=if ds.length=is.length then some (setN is ds ρ) else none:=by
   cases is with
   | nil=>rfl
   | cons _ _=>rfl
  rw [e0,if_pos hl]
 ·rw [if_neg hl] at q'
  exact q'.elim
theorem zU {env:PySem.Env} {x y:Str} {px py pt pt2:Pos} {a b:Expr} {kt k2:Nat} {p q:Prop} (h:((env.scope.names.lookup x=some .cell\/env.scope.names.lookup y=some .cell)/\p)/\q):swappedStores [.Tuple [.Name x px, .Name y py] kt pt] (.Tuple [a,b] k2 pt2) env=pure none:=by
 unfold swappedStores
 have kx:env.kindOf x=env.scope.names.lookup x:=rfl
 have ky:env.kindOf y=env.scope.names.lookup y:=rfl
 rcases h.1.1 with e | e
 ·simp [kx,ky,e,List.filterMap,Expr.pos]
  intro _ _ _ h2
  exfalso;revert h2
  (repeat' split)<;>simp
 ·simp [kx,ky,e,List.filterMap,Expr.pos]
  intro _ _ _ h2
  exfalso;revert h2
  (repeat' split)<;>simp
theorem aI6 {pins:List (Addr×Obj)} {D':Ends} {hd:ExceptHandler} (O:StOk X ad C):StOk (tX X pins D' hd) ad C:=by
 refine⟨⟨O.cx.N,O.cx.nd,O.cx.vis,O.cx.gk,fun x g e=> ?_,O.cx.cap,O.cx.calm,O.cx.un,O.cx.hd,O.cx.exc,O.cx.kin,O.cx.kve,fun j n F e=>let ⟨r,T,hr⟩:=O.cx.fnv j n F e;⟨r,⟨T.kp,T.ok⟩,hr⟩⟩,O.fn,O.sc,O.lc,O.exm,O.exi⟩
 obtain⟨e1,e2⟩:=O.cx.gt x g e
 refine⟨e1, ?_⟩
 cases g with
 | fn k n F=>
  obtain⟨r,f,T,hr,hf⟩:=e2
  exact⟨r,f,⟨T.mg,T.kp,T.ok⟩,hr,hf⟩
 | exc c=>exact e2
 | verr=>exact e2
 | val d=>exact e2
 | py p=>exact e2
 | cls A ms=>exact⟨e2.1,e2.2.1,fun m n M hm=>let z:=e2.2.2 m n M hm;⟨z.no,z.ok⟩⟩
theorem pF {e:Expr} (h:aBb e=true): ∃ s k p,e= .Constant (.str s) k p:=by
 cases e<;>try (cases h;done)
 rename_i c k p
 cases c<;>try (cases h;done)
 exact⟨_,k,p,rfl⟩
def aKw (ad:Ad) (E₀:XK) (n:Nat):Prop:= ∀ (X:Cx) (C:SK.Ctx) (t:Bool) (s:Stmt) (g:FS),StOk X ad C->(t=false->DefX X E₀/\PassesOwn (model X.prog X.w) X.A X.env X.xe)->yX n t C s=some g->MS X ad (Zt ad E₀ t) s g
def xM (ad:Ad) (E₀:XK) (n:Nat):Prop:= ∀ (X:Cx) (C:SK.Ctx) (t:Bool) (s:List Stmt) (g:FS),StOk X ad C->(t=false->DefX X E₀/\PassesOwn (model X.prog X.w) X.A X.env X.xe)->fG n t C s=some g->MSs X ad (Zt ad E₀ t) s g
theorem Zt.imp {Z Z':(St->Nat->Hp->Prop)->Prop} (h:MS X ad Z st g) (k: ∀ E,Z' E->Z E):MS X ad Z' st g:=PS.imp h fun D' σ H ⟨G₀,G,ρ,E,S,hx,hr⟩=>⟨G₀,G,ρ,E,S,⟨hx.1,k E hx.2⟩,hr⟩
theorem Zts.imp {Z Z':(St->Nat->Hp->Prop)->Prop} {sts:List Stmt} (h:MSs X ad Z sts g) (k: ∀ E,Z' E->Z E):MSs X ad Z' sts g:=PSs.imp h fun D' σ H ⟨G₀,G,ρ,E,S,hx,hr⟩=>⟨G₀,G,ρ,E,S,⟨hx.1,k E hx.2⟩,hr⟩
theorem xN {b:List Stmt} {s:Stmt} (h:aI2 b=some s):b=[s]:=by
 unfold aI2 at h;split at h
 ·cases h;rfl
 ·cases h
theorem aC0 {s:Stmt} {z:Str} {e:Expr} (h:aKa s=some (z,e)): ∃ p ap cp pos,s= .Expr (.Call (.Attribute (.Name z p) "extend" ap) [e] [] cp) pos/\(ap.endLine==cp.line)=true:=by
 unfold aKa at h
 split at h
 ·rename_i e0 pos
  split at h
  ·rename_i f as kws cp
   split at h
   ·rename_i hk
    split at h
    ·rename_i o m ap
     obtain⟨⟨z',p⟩,h1,h⟩:=zBd h
     obtain⟨e',h2,h⟩:=zBd h
     split at h
     ·rename_i hc
      cases h
      cases aQ h1
      cases bR h2
      cases (List.isEmpty_iff.mp hk)
      exact⟨p,ap,cp,pos,by rw [hc.1],hc.2⟩
     ·cases h
    ·cases h
   ·cases h
  ·cases h
 ·cases h
theorem uQ {C:SK.Ctx} {tg it e:Expr} {b:List Stmt} {t i j:Nat} (h:r0 C tg it b=some (t,i,j,e)): ∃ x px y py z p ap cp pos,tg= .Name x px/\it= .Name y py/\b=[.Expr (.Call (.Attribute (.Name z p) "extend" ap) [e] [] cp) pos]/\loc C x=some t/\loc C y=some i/\loc C z=some j/\t≠i/\i≠j/\(ap.endLine==cp.line)=true:=by
 unfold r0 at h
 obtain⟨⟨x,px⟩,h1,h⟩:=zBd h
 obtain⟨⟨y,py⟩,h2,h⟩:=zBd h
 obtain⟨s,h3,h⟩:=zBd h
 obtain⟨⟨z,e'⟩,h4,h⟩:=zBd h
 obtain⟨t',h5,h⟩:=zBd h
 obtain⟨i',h6,h⟩:=zBd h
 obtain⟨j',h7,h⟩:=zBd h
 split at h
 ·rename_i hc
  cases h
  simp only [aw,bne_iff_ne] at hc
  obtain⟨p,ap,cp,pos,rfl,hl⟩:=aC0 h4
  exact⟨x,px,y,py,z,p,ap,cp,pos,aQ h1,aQ h2,xN h3,h5,h6,h7,hc.1.1.2,hc.1.2,hl⟩
 ·cases h
theorem aKx {n:Nat} (hS:xM ad E₀ n):aKw ad E₀ (n+1):=by
 intro X C t s g O hd h
 obtain⟨kE,kL,kI⟩:=bV (ad:=ad) 50
 unfold yX at h
 split at h
 ·cases h;exact aB0
 ·cases h;exact wT
 ·cases h;exact nD
 ·-- return
  split at h
  ·cases h;exact aB2
  ·split at h
   ·rename_i x p hv
    cases aQ hv
    split at h
    ·rename_i i e1
     obtain⟨v1,v2,v3,v4⟩:=O.cx.vis x i e1
     split at h
     ·cases h;exact aB3 v1 v2 v3 v4
     ·cases h;exact oV (oI v1 v2 v3 v4)
    ·obtain⟨f,h1,rfl⟩:=zMd h
     exact oV (kE X C _ f O.cx h1).1
   ·obtain⟨f,h1,rfl⟩:=zMd h
    exact eI (oV (kE X C _ f O.cx h1).1)
 ·-- an assignment
  rename_i ts e pos
  have hx:=zBd h
  clear h
  obtain⟨tg,h0,h⟩:=hx
  cases bR h0
  split at h
  ·-- x=e
   obtain⟨i,h1,h⟩:=zBd h
   obtain⟨f,h2,rfl⟩:=zMd h
   refine eI ?_
   split
   ·exact aCx (uO O h2 h1)
   ·exact uP (uO O h2 h1)
  ·-- a,b=e
   obtain⟨u,h0,h⟩:=zBd h
   obtain⟨⟨xs,k⟩,h1,h⟩:=zBd h
   obtain⟨is,h2,h⟩:=zBd h
   split at h
   ·obtain⟨f,h3,rfl⟩:=zMd h
    have hf:rZ e=true:=by
     split at h0
     ·assumption
     ·cases h0
    exact eI (aCz O (kE X C _ f O.cx h3).1 (by cases e<;>first | rfl | (cases hf;done)) (by cases e<;>first | rfl | (cases hf;done)) h1 (O.nms h2))
   ·cases h
  ·-- x[k]=e
   rename_i o k tp
   have hx:=zBd h
   clear h
   obtain⟨⟨x,p⟩,hv,h⟩:=hx
   cases aQ hv
   obtain⟨i,h1,h⟩:=zBd h
   obtain⟨v1,v2,v3,v4⟩:=O.cx.vis x i h1
   split at h
   ·obtain⟨f,h2,h⟩:=zBd h
    obtain⟨g,h3,rfl⟩:=zMd h
    refine eI (aG7 O.cx.un v1 v2 v3 v4 (kE X C _ f O.cx h2).1 (kE X C _ g O.cx h3).1 (fun v=> ?_) ?_ ?_)
    ·have ns:=(aI h3).2.2
     cases k<;>first | rfl | exact absurd rfl (ns _ _ _ _)
    ·cases e<;>rfl
    ·cases e<;>rfl
   ·cases h
  ·cases h
 ·-- an expression
  split at h
  ·rename_i f' as kws cp
   split at h
   ·rename_i hkw
    cases dF hkw
    split at h
    ·-- x.append(e)
     rename_i o m ap
     have hx:=zBd h
     clear h
     obtain⟨⟨x,p⟩,hv,h⟩:=hx
     cases aQ hv
     have hx:=zBd h
     clear h
     obtain⟨e,ho,h⟩:=hx
     cases bR ho
     obtain⟨i,h1,h⟩:=zBd h
     obtain⟨v1,v2,v3,v4⟩:=O.cx.vis x i h1
     split at h
     ·rename_i hc
      rw [aw] at hc
      obtain⟨f,h2,h⟩:=zBd h
      have me:=(kE X C _ f O.cx h2).1
      have ns:=aJ (es:=[]) (env:=X.env) (aI h2).1
      split at h
      ·rename_i hm
       cases h
       subst hm
       exact eI (aGs v1 v2 v3 v4 me ns hc.2)
      ·split at h
       ·rename_i hm
        cases h
        subst hm
        exact eI (aGt v1 v2 v3 v4 me ns hc.2)
       ·cases h
     ·cases h
    ·obtain⟨f,h1,rfl⟩:=zMd h
     exact eI (aB4 (kE X C _ f O.cx h1).1 rfl)
    ·cases h
   ·cases h
  ·cases h
 ·obtain⟨f,h1,h⟩:=zBd h
  obtain⟨ga,h2,h⟩:=zBd h
  obtain⟨gb,h3,rfl⟩:=zMd h
  exact eI (aGr (kE X C _ f O.cx h1).2.1 (hS X C t _ ga O hd h2) (hS X C t _ gb O hd h3))
 ·-- for
  rename_i tg it b els pos
  cases t with
  | true=>cases h
  | false=>
   cases els with
   | cons _ _=>cases h
   | nil=>
    simp only [Bool.false_or,List.isEmpty_nil,Bool.not_true,az,if_false] at h
    split at h
    ·-- for x in o:p.extend(e)
     rename_i ti i j e hx
     obtain⟨f,h1,rfl⟩:=zMd h
     obtain⟨x,px,y,py,z,p,ap,cp,pos',rfl,rfl,rfl,a1,a2,a3,a4,a5,hl⟩:=uQ hx
     obtain⟨v1,v2,v3,v4⟩:=O.cx.vis _ _ a2
     obtain⟨w1,w2,w3,w4⟩:=O.cx.vis _ _ a3
     exact aCa (hd rfl).2 O.cx.calm O.cx.nd v1 v2 v3 v4 w1 w2 w3 w4 (O.nm a1) a4 a5 (kE X C _ f O.cx h1).1 (aJ (aI h1).1) hl
    obtain⟨⟨xs,k⟩,h1,h⟩:=zBd h
    obtain⟨f,h2,h⟩:=zBd h
    obtain⟨is,h3,h⟩:=zBd h
    split at h
    ·obtain⟨gb,h4,rfl⟩:=zMd h
     have mig:MIG X ad tg it f/\ ∀ a b c,it≠ .Set a b c:=by
      unfold aL5 at h2
      split at h2
      ·exact⟨jS (kE X C _ f O.cx h2).1,fun _ _ _ z=>nomatch z⟩
      ·rename_i hn
       exact⟨(kI X C tg _ _ f O.cx (uM h1).2 h2).2 (fun x p z=>hn x p z),fun a b c z=>by subst z;exact iH h2⟩
     exact eI (aGv (hd rfl).2 O.cx.calm O.cx.nd mig.1 h1 (O.nms h3) (hS X C false _ gb O hd h4) (wR mig.2))
    ·cases h
 ·-- while
  rename_i c b els pos
  cases t with
  | true=>cases h
  | false=>
   cases els with
   | cons _ _=>cases h
   | nil=>
    simp only [Bool.false_or,List.isEmpty_nil,Bool.not_true,az,if_false] at h
    obtain⟨f,h1,h⟩:=zBd h
    obtain⟨gb,h2,rfl⟩:=zMd h
    exact eI (wV (hd rfl).2 (kE X C _ f O.cx h1).2.1 (hS X C false _ gb O hd h2))
 ·-- raise
  rename_i x c pos
  cases t with
  | true=>cases h
  | false=>
   cases c with
   | some _=>cases h
   | none=>
    simp only [Bool.false_or,Option.isSome_none,az,if_false] at h
    have hx:=zBd h
    clear h
    obtain⟨e,rfl,h⟩:=hx
    split at h
    ·rename_i f' as kws cp
     split at h
     ·rename_i hkw
      cases dF hkw
      have hx:=zBd h
      clear h
      obtain⟨⟨x,p⟩,hv,h⟩:=hx
      cases aQ hv
      have hx:=zBd h
      clear h
      obtain⟨a,ho,h⟩:=hx
      cases bR ho
      split at h
      ·rename_i hstr
       obtain⟨sx,k1,k2,rfl⟩:=pF hstr
       split at h
       ·rename_i c e1 e2
        cases h
        obtain⟨g1,g2,g3,g4⟩:=O.cx.gl e2
        exact Zt.imp (wY (hd rfl).1 O.cx.calm g1 g3 g2 (O.exi c)) fun E z=>z rfl
       ·cases h
      ·cases h
     ·cases h
    ·cases h
 ·cases h
theorem aHm {n:Nat} (hS:aKw ad E₀ n) (hSs:xM ad E₀ n):xM ad E₀ (n+1):=by
 intro X C t s g O hd h
 have hB: ∀ a:Stmt,MS X ad (Zt ad E₀ t) a ((yX n t C a).getD aI0):=fun a=>by
  cases e:yX n t C a with
  | none=>exact aGw
  | some f=>exact hS X C t a f O hd e
 unfold fG at h
 split at h
 ·cases h;exact nE
 ·cases h;exact aB1 (hB _)
 ·obtain⟨r,h2,rfl⟩:=zMd h
  exact oU (hB _) (hSs X C t _ r O hd h2)
theorem iI: ∀ n,aKw ad E₀ n/\xM ad E₀ n:=by
 intro n
 induction n with
 | zero=>
  refine⟨?_, ?_⟩
  ·intro X C t s g O hd h
   unfold yX at h
   cases h
  ·intro X C t s g O hd h
   unfold fG at h
   cases h
 | succ n ih=>exact⟨aKx ih.2,aHm ih.1 ih.2⟩
end
noncomputable def GlT (P:Program) (w:World) (K:Frag) (mg:Str->Option Value) (base:Heap) (ad:Ad) (k:Nat) (x:Str):SK.Gl->Prop
 | .fn j n F=> ∃ r f,r<=k/\mg x=some (.ref f)/\keepIn K (.ref f)=true/\(∃ fd ps,FnOk P w K mg base (CXe P w) r f fd ps (qD K ad n F)/\dB K fd ps [])/\f=ad.fnA j
 | .exc c=>mg x=some (.ref (ad.cls c))/\c<ad.nb
 | .verr=>x="ValueError"/\mg x=none
 | .val d=> ∃ u v,mg x=some u/\aP v u/\ ∀ G,Rep K ad G d v
 | .py p=>x=cS p/\mg x=none
 | .cls A ms=>mg x=some (.ref A)/\RkC K A/\ ∀ m n M,ms.lookup m=some (n,M)->(m≠"held"/\m≠"done"/\m≠"undone")/\ ∃ f r fd ps,r<=k/\Meth K A m f/\FnOk P w K mg base (CXe P w) r f fd ps (spM K ad A n M)/\dB K fd ps []
def cT (P:Program) (w:World) (K:Frag) (mg:Str->Option Value) (base:Heap) (ad:Ad) (k:Nat) (tab:List (Str×SK.Gl)):Prop:= ∀ x g,tab.lookup x=some g->(x==("__debug__":Str))=false/\GlT P w K mg base ad k x g
def eB (P:Program) (w:World) (K:Frag) (mg:Str->Option Value) (base:Heap) (ad:Ad) (k:Nat) (fns:List (Nat×Fn)):Prop:= ∀ j n F,fns[j]? =some (n,F)-> ∃ r,r<=k/\keepIn K (.ref (ad.fnA j))=true/\ ∃ fd ps,FnOk P w K mg base (CXe P w) r (ad.fnA j) fd ps (qD K ad n F)/\dB K fd ps []
structure ExcK (K:Frag) (ad:Ad):Prop where
 exc: ∀ c,ExcCls K (ad.cls c)
 kin: ∀ c e,c<ad.nb->kitOne K (.ref (ad.cls e)) (.ref (ad.cls c))=some (hit c e)
 kve: ∀ e,kitOne K (.ref (ad.cls e)) (.type "ValueError")=some true
 exm: ∀ c,exmOne K (.ref (ad.cls c)) (.ref (ad.cls 0))=some true
 exi: ∀ c,excIn K (ad.cls c) aI5 "ValueError.__new__"=true
section
variable {P:Program} {w:World} {K:Frag} {mg:Str->Option Value} {base:Heap} {ad:Ad} {k:Nat} {tab:List (Str×SK.Gl)}
theorem GlT.mono {x:Str} {g:SK.Gl} {j:Nat} (h:GlT P w K mg base ad k x g) (hk:k<=j):GlT P w K mg base ad j x g:=by
 cases g with
 | fn i n F=>
  obtain⟨r,f,a,b⟩:=h
  exact⟨r,f,Nat.le_trans a hk,b⟩
 | exc c=>exact h
 | verr=>exact h
 | val d=>exact h
 | py p=>exact h
 | cls A ms=>exact⟨h.1,h.2.1,fun m n M hm=>let ⟨no,f,r,fd,ps,h1,h2⟩:=h.2.2 m n M hm;⟨no,f,r,fd,ps,Nat.le_trans h1 hk,h2⟩⟩
theorem cT.mono {j:Nat} (h:cT P w K mg base ad k tab) (hk:k<=j):cT P w K mg base ad j tab:=fun x g e=>⟨(h x g e).1,(h x g e).2.mono hk⟩
theorem cT.nil:cT P w K mg base ad k []:=fun x g e=>by cases e
theorem cT.cons {x:Str} {g:SK.Gl} (h:cT P w K mg base ad k tab) (hd:(x==("__debug__":Str))=false) (hg:GlT P w K mg base ad k x g):cT P w K mg base ad k ((x,g)::tab):=by
 intro y g' e
 rw [List.lookup_cons] at e
 cases q:y==x with
 | true=>
  rw [q] at e
  cases e
  have:y=x:=by simpa using q
  subst this
  exact⟨hd,hg⟩
 | false=>
  rw [q] at e
  exact h y g' e
theorem eB.nil:eB P w K mg base ad k []:=fun j n F e=>by simp at e
theorem eB.snoc {fns:List (Nat×Fn)} {j n:Nat} {F:Fn} {r k':Nat} {f:Addr} {fd:FuncData} {ps:List Str} (h:eB P w K mg base ad k fns) (hk:k<=k') (hl:fns.length=j) (hf:f=ad.fnA j) (hr:r<=k') (kp:keepIn K (.ref f)=true) (ok:FnOk P w K mg base (CXe P w) r f fd ps (qD K ad n F)) (hb:dB K fd ps []):
  eB P w K mg base ad k' (fns++[(n,F)]):=by
 intro i m G e
 subst hf
 by_cases hi:i<fns.length
 ·rw [bv hi] at e
  obtain⟨r',h1,h2⟩:=h i m G e
  exact⟨r',Nat.le_trans h1 hk,h2⟩
 ·rw [bo (by omega)] at e
  cases hq:i - fns.length with
  | zero=>
   rw [hq] at e
   cases e
   have:i=j:=by omega
   subst this
   exact⟨r,hr,kp,fd,ps,ok,hb⟩
  | succ q=>rw [hq] at e;simp at e
theorem bW {N Ps:List Str} {sc:Scope} (h:bI N Ps sc=true):FnScope N Ps sc/\ ∀ x∈N,(x==("__debug__":Str))=false/\(x==("__classdict__":Str))=false:=by
 unfold bI at h
 simp only [aw] at h
 obtain⟨⟨⟨⟨⟨⟨⟨h1,h2⟩,h3⟩,h4⟩,h5⟩,h6⟩,h7⟩,h8⟩:=h
 refine⟨⟨by simpa using h1,by simpa using h2,by simpa using h3,of_decide_eq_true h4,of_decide_eq_true h5,fun x hx=> ?_,fun y hy z=> ?_⟩,fun x hx=> ?_⟩
 ·have:=zAd h6 x hx
  rcases(Bool.or_eq_true _ _).mp this with z | z
  ·exact .inl (bX z)
  ·exact .inr (bX z)
 ·have:=zAd h7 y hy
  rw [z] at this
  simp at this
 ·have:=zAd h8 x hx
  simpa using this
theorem gG {X:Cx} {G:Hp} {ds:List D} {vs:List V} {n:Nat} (hG:Same G X.H₀) (r:aE X.K ad G ds vs):SS X ad G G X.H₀ (ds.map Slot.sh++ao n .no) (vs.map some++ao n none):=by
 have hl:=r.length
 have key: ∀ (i:Nat) (sl:Slot),(ds.map Slot.sh++ao n .no)[i]? =some sl->(∃ d v,sl= .sh d/\(vs.map some++ao n none)[i]? =some (some v)/\Rep X.K ad G d v)\/(sl= .no/\ ∃ ov,(vs.map some++ao n none)[i]? =some ov):=fun i sl e=>by
  by_cases hi:i<ds.length
  ·rw [bv (by simpa using hi),List.getElem?_map] at e
   cases e1:ds[i]? with
   | none=>rw [e1] at e;cases e
   | some d=>
    rw [e1] at e
    cases e
    obtain⟨v,e2,q⟩:=r.get e1
    refine .inl ⟨d,v,rfl, ?_,q⟩
    rw [bv (by rw [aq];omega),List.getElem?_map,e2]
    rfl
  ·rw [bo (by simpa using hi),List.getElem?_replicate] at e
   split at e
   ·cases e
    refine .inr ⟨rfl,none, ?_⟩
    rename_i hlt
    rw [bo (by rw [aq];omega),List.getElem?_replicate,if_pos]
    rw [aq] at hlt ⊢
    omega
   ·cases e
 refine⟨Step.refl hG,⟨by simp [hl],fun i sl e=> ?_⟩,fun i xs a e w h=> ?_,fun i j xs ys a e1 e2 w1 w2 h1 h2=> ?_, ?_⟩
 ·rcases key i sl e with ⟨d,v,rfl,e1,q⟩ | ⟨rfl,ov,e1⟩
  ·exact⟨some v,e1,v,rfl,q⟩
  ·exact⟨ov,e1,trivial⟩
 ·rcases key i _ e with ⟨d,v,z,_⟩ | ⟨z,_⟩<;>(subst z;exact(bg w).elim)
 ·rcases key i _ e1 with ⟨d,v,z,_⟩ | ⟨z,_⟩<;>(subst z;exact(bg w1).elim)
 ·have no: ∀ {i:Nat} {as:List Addr}, ¬ dZ X.H₀ (ds.map Slot.sh++ao n .no) (vs.map some++ao n none) i as:=fun {i as} f=>by
   obtain⟨C,r,p,dx,d,l1,l2,f1,_⟩:=f
   rcases key i _ f1 with ⟨d,v,z,_⟩ | ⟨z,_⟩<;>cases z
  exact⟨fun i as f=>(no f).elim,fun i as f=>(no f).elim,fun i j as as' a f=>(no f).elim⟩
theorem aHn {x qual:Str} {st:Stmt} {f:Addr} {fd:FuncData} {fns:List (Nat×Fn)} {n:Nat} {F:Fn} {ps:List Str} (B:ExcK K ad) (TB:cT P w K mg base ad k tab) (FB:eB P w K mg base ad k fns) (Fu:Fun K x qual st f fd) (hps:cR (defArgs st)=some ps)
  (hd:aBf tab fns st=some (n,F)):FnOk P w K mg base (CXe P w) (k+1) f fd ps (qD K ad n F):=by
 obtain⟨oc,od,kV,doc,pm,an,cdv,ct,osl,rfl,lk,hcd⟩:=Fu.ex
 cases st with
 | FunctionDef nm as b dl re tp sc ts bi pos=>
  have hd':((cR as).bind fun Ps=>if bI (aB sc) Ps sc then(fG 100 false ⟨tab,fns,sc,aB sc,vR 50 b⟩ b).map fun g=>(Ps.length,SK.fnOf (aB sc).length g) else none)=some (n,F):=hd
  have hps':cR as=some ps:=hps
  rw [hps'] at hd'
  have hd2:(if bI (aB sc) ps sc then(fG 100 false ⟨tab,fns,sc,aB sc,vR 50 b⟩ b).map fun g=>(ps.length,SK.fnOf (aB sc).length g) else none)=some (n,F):=hd'
  by_cases hs:bI (aB sc) ps sc=true
  ·rw [if_pos hs] at hd2
   obtain⟨g,hg,e⟩:=zMd hd2
   cases e
   obtain⟨S,nm⟩:=bW hs
   refine aA0 lk hcd S (fun vs H Q E ⟨G,ds,_,r,hl,_⟩=>by rw [r.length,hl]) fun A outer s H vs Q E hr hz_=> ?_
   obtain⟨G,ds,hG,r,hl,hq⟩:=hz_
   let C:SK.Ctx:=⟨tab,fns,sc,aB sc,vR 50 b⟩
   have vis: ∀ x i,loc C x=some i->(aB sc)[i]? =some x/\Loc sc x/\x∈aB sc:=fun x i e=>by
    obtain⟨e1,e2⟩:=fN e
    refine⟨dC e1, ?_,fM e1⟩
    rcases e2 with e2 | e2 | e2
    ·exact .inl e2
    ·exact .inr e2
    ·exact absurd rfl (S.nofree _ (bY e2))
   have O:StOk (kU (CXe P w) P w K mg base (aB sc) qual sc f cdv A outer s H E) ad C:=by
    refine⟨⟨rfl,S.nd,fun x i e=> ?_,fun x e=>e,fun x g e=> ?_,fun x i e=> ?_,rfl, ?_,hr.hd,B.exc,B.kin,B.kve,fun j m F' e=> ?_⟩,fun _=>rfl,rfl,fun x i e=>(vis x i e).2.1,B.exm,B.exi⟩
    ·obtain⟨a,b,c⟩:=vis x i e
     exact⟨a,b.elim .inl fun z=> .inr (.inl z),(nm x c).1,(nm x c).2⟩
    ·obtain⟨a,b⟩:=TB x g e
     refine⟨a, ?_⟩
     cases g with
     | fn j m F'=>
      obtain⟨r',f',h1,h2,h3,h4,h5⟩:=b
      exact⟨r',f',⟨h2,h3,h4⟩,hr.mono h1,h5⟩
     | exc c=>exact b
     | verr=>exact b
     | val d=>exact b
     | py p=>exact b
     | cls A ms=>exact⟨b.1,b.2.1,fun m n M hm=>let ⟨no,f,r,fd,ps,h1,h2,h3,h4⟩:=b.2.2 m n M hm;⟨no,f,r,fd,ps,h2,h3,hr.mono h1,h4⟩⟩
    ·obtain⟨e1,e2⟩:=cD e
     rcases e2 with e2 | e2
     ·exact .inl e2
     ·exact absurd rfl (S.nofree _ (bY e2))
    ·exact Nat.lt_of_le_of_lt (Nat.add_le_add_left (by decide:62<=64) _) hr.units
    ·obtain⟨r',h1,h2,h3⟩:=FB j m F' e
     exact⟨r',⟨h2,h3⟩,hr.mono h1⟩
   have T:DefX (kU (CXe P w) P w K mg base (aB sc) qual sc f cdv A outer s H E) E:=⟨rfl,rfl,rfl,fun e s' h=>h⟩
   refine⟨_,(iI (ad:=ad) (E₀:=E) 100).2 _ C false b g O (fun _=>⟨T,PassesOwn.leaving (Q₁:=fun e s''=>CXe P w outer H s E e s'')⟩) hg, ?_⟩
   refine⟨G,G,ds.map Slot.sh++ao ((aB sc).length - ds.length) .no,fun σ c H'=>E (.ref (ad.cls c)) none H', ?_,⟨fun σ=>tD T,fun _ σ c H h=>h⟩, ?_⟩
   ·have:=gG (X:=kU (CXe P w) P w K mg base (aB sc) qual sc f cdv A outer s H E) (ad:=ad) (n:=(aB sc).length - ds.length) hG r
    unfold L2.start
    rw [r.length]
    exact this
   ·have hq':RK K ad G H (match g (ds.map Slot.sh++ao ((aB sc).length - ds.length) .no) with
     | .rt (.ok d)=> .ok d
     | .rt (.ow xs)=> .ow xs
     | .rt _=> .bad
     | .nx _=> .ok .non
     | .ex c _=> .ex c
     | _=> .bad) Q (fun c H'=>E (.ref (ad.cls c)) none H'):=hq
    cases e:g (ds.map Slot.sh++ao ((aB sc).length - ds.length) .no) with
    | nx ρ=>rw [e] at hq';exact fun σ G' H' S'=>hq' .non G' H' S'.st (by unfold Rep;rfl)
    | bk ρ=>rw [e] at hq';exact hq'.elim
    | ct ρ=>rw [e] at hq';exact hq'.elim
    | ex c ρ=>rw [e] at hq';exact fun σ G' H' S'=>hq' G' H' S'.st
    | rt r'=>
     rw [e] at hq'
     cases r' with
     | ok d=>exact hq'
     | ow xs=>exact hq'
     | ex c=>exact hq'.elim
     | bad=>exact hq'.elim
  ·rw [if_neg hs] at hd2
   cases hd2
 | _=>cases hd
noncomputable def pG (K:Frag) (cs:List Addr) (C0:Addr):Bool:=
 decide (cs.length<=100)&&cs.head?==some C0&&cs.all fun C=>(clsIn K C).isSome&&mroIn K C (.type "object")==some true&&mroIn K C (.type "BaseException")==some true&&findIn K (.ref C) "__class__"==some (some (.builtin "object.__class__"))&&
  findIn K (.ref C) "__getattribute__"==some (some (.builtin "BaseException.__getattribute__"))&&findIn K (.ref C) "__getattr__"==some none&&kitOne K (.ref C) (.type "ValueError")==some true&&exmOne K (.ref C) (.ref C0)==some true&&
  excIn K C aI5 "ValueError.__new__"
noncomputable def pH (K:Frag) (cs:List Addr):Bool:=cs.zipIdx.all fun p=>cs.zipIdx.all fun q=>kitOne K (.ref p.1) (.ref q.1)==some (hit q.2 p.2)
noncomputable def zV (cs:List Addr) (C0:Addr) (fs:List Addr):Ad:=⟨fun c=>cs.getD c C0,fun k=>if k<1000 then fs.getD k 0 else k - 1000,cs.length⟩
theorem aC1 {cs fs:List Addr} {C0:Addr} (h:pG K cs C0=true) (h2:pH K cs=true):ExcK K (zV cs C0 fs):=by
 unfold pG at h
 rw [aw,aw] at h
 obtain⟨⟨hl,hh⟩,ha⟩:=h
 have hl:cs.length<=100:=of_decide_eq_true hl
 have hh:cs.head?=some C0:=by simpa using hh
 have mem0:C0∈cs:=List.mem_of_mem_head? (by rw [hh];rfl)
 have get: ∀ c,(zV cs C0 fs).cls c∈cs:=fun c=>by
  show cs.getD c C0∈cs
  rw [bw]
  cases e:cs[c]? with
  | none=>exact mem0
  | some a=>exact List.mem_of_getElem? e
 have z0:cs[0]? =some C0:=by rw [<-List.head?_eq_getElem?];exact hh
 have c0:(zV cs C0 fs).cls 0=C0:=by
  show cs.getD 0 C0=C0
  rw [bw,z0]
  rfl
 have all: ∀ C∈cs,ExcCls K C/\kitOne K (.ref C) (.type "ValueError")=some true/\exmOne K (.ref C) (.ref C0)=some true/\excIn K C aI5 "ValueError.__new__"=true:=fun C hC=>by
  have:=zAd ha C hC
  simp only [aw,beq_iff_eq] at this
  obtain⟨⟨⟨⟨⟨⟨⟨⟨h1,h2⟩,h3⟩,h4⟩,h5⟩,h6⟩,h7⟩,h8⟩,h9⟩:=this
  exact⟨⟨h1,h2,h3,h4,h5,h6⟩,h7,h8,h9⟩
 have pair: ∀ (c e:Nat) (a b:Addr),cs[e]? =some a->cs[c]? =some b->kitOne K (.ref a) (.ref b)=some (hit c e):=fun c e a b ea eb=>by
  unfold pH at h2
  have m1:(a,e)∈cs.zipIdx:=List.mem_zipIdx_iff_getElem?.mpr ea
  have m2:(b,c)∈cs.zipIdx:=List.mem_zipIdx_iff_getElem?.mpr eb
  have:=zAd (zAd h2 _ m1) _ m2
  simpa using this
 refine⟨fun c=>(all _ (get c)).1,fun c e hc=> ?_,fun e=>(all _ (get e)).2.1,fun c=> ?_,fun c=>(all _ (get c)).2.2.2⟩
 ·have hc':c<cs.length:=hc
  obtain⟨b,eb⟩: ∃ b,cs[c]? =some b:=⟨_,List.getElem?_eq_getElem hc'⟩
  have e1:(zV cs C0 fs).cls c=b:=by
   show cs.getD c C0=b
   rw [bw,eb]
   rfl
  rw [e1]
  cases ea:cs[e]? with
  | some a=>
   have e2:(zV cs C0 fs).cls e=a:=by
    show cs.getD e C0=a
    rw [bw,ea]
    rfl
   rw [e2]
   exact pair c e a b ea eb
  | none=>
   have e2:(zV cs C0 fs).cls e=C0:=by
    show cs.getD e C0=C0
    rw [bw,ea]
    rfl
   have hel:cs.length<=e:=List.getElem?_eq_none_iff.mp ea
   rw [e2,pair c 0 C0 b z0 eb]
   congr 1
   unfold hit
   have n1:(c==e)=false:=by simp;omega
   rw [n1]
   cases c<;>simp
 ·rw [c0]
  exact(all _ (get c)).2.2.1
end
section
variable {P:Program} {w:World} {K:Frag} {mg:Str->Option Value} {base h:Heap} {ad:Ad} {k:Nat} {tab:List (Str×SK.Gl)} {fns:List (Nat×Fn)}
structure PQ (P:Program) (w:World) (K:Frag) (mg:Str->Option Value) (base h:Heap) (ad:Ad) (k:Nat) (tab:List (Str×SK.Gl)) (fns:List (Nat×Fn)):Prop where
 t:cT P w K mg base ad k tab
 u:eB P w K mg base ad k fns
 X:K.In h
 G:h.Ns mainGlobals mg
 B:ExcK K ad
def Bnd (x:Str) (st:Stmt) (ps:List Str):Prop:= ∀ (kV doc pm:Value) (an:Option Addr) (cdv ct:Value) (us:List Value),us.length=ps.length->bindArgs (PySem.W.fnOf x x (defArgs st) (defBody st) (defScope st) .none kV doc pm an cdv ct) ⟨us,[]⟩=pure (ps.zip us)
theorem PQ.cons (T:PQ P w K mg base h ad k tab fns) {x:Str} {f:Addr} {fd:FuncData} {ps:List Str} {n r:Nat} {M:Fn} (hr:k<=r) (ok:FnOk P w K mg base (CXe P w) r f fd ps (qD K ad n M)) (hb:dB K fd ps []) (kp:keepIn K (.ref f)=true) (hm:mg x=some (.ref f)) (hj:f=ad.fnA fns.length) (hdb:(x==("__debug__":Str))=false):
  PQ P w K mg base h ad r ((x, .fn fns.length n M)::tab) (fns++[(n,M)]):=
 ⟨cT.cons (T.t.mono hr) hdb ⟨r,f,ak _,hm,kp,⟨_,_,ok,hb⟩,hj⟩,eB.snoc T.u hr rfl hj (ak _) kp ok hb,T.X,T.G,T.B⟩
theorem PQ.addV (T:PQ P w K mg base h ad k tab fns) (x:Str) (st:Stmt) (f:Addr) (ps:List Str) (n:Nat) (M:Fn) {oc:Value} {od an:Option Addr} {osl:Array (Option Value)} {kV doc pm cdv ct:Value} (l:K.lookup f=some ⟨oc,od, .func (PySem.W.fnOf x x (defArgs st) (defBody st) (defScope st) .none kV doc pm an cdv ct),osl⟩)
  (fns':List (Nat×Fn)) (hf:fns'=fns\/fns'=[]) (d:aBf tab fns' st=some (n,M):=by kernel_rfl) (c:codeIn K cdv x=true:=by kernel_rfl) (kp:keepIn K (.ref f)=true:=by kernel_rfl) (hm:nsIn K mainGlobals x=some (some (.ref f)):=by kernel_rfl) (hj:f=ad.fnA fns.length:=by rfl)
  (hdb:(x==("__debug__":Str))=false:=by decide) (hps:cR (defArgs st)=some ps:=by rfl) (hb:Bnd x st ps:=by intro _ _ _ _ _ _ us hl;rcases us with _ | ⟨u0,_ | ⟨u1,_ | ⟨u2,_ | ⟨u3,_ | ⟨u4,us⟩⟩⟩⟩⟩<;>first | rfl | (simp at hl)):
  PQ P w K mg base h ad (k+1) ((x, .fn fns.length n M)::tab) (fns++[(n,M)]):=by
 have F:=lC (st:=st) l c kp
 refine T.cons (Nat.le_succ _) (aHn (ps:=ps) T.B T.t ?_ F hps d) (F.binds hb) kp (PySem.W.mg_of T.X T.G hm) hj hdb
 rcases hf with rfl | rfl
 ·exact T.u
 ·exact eB.nil
theorem PQ.add (T:PQ P w K mg base h ad k tab fns) (x:Str) (st:Stmt) (f:Addr) (ps:List Str) (n:Nat) (M:Fn) {oc:Value} {od an:Option Addr} {osl:Array (Option Value)} {kV doc pm cdv ct:Value} (l:K.lookup f=some ⟨oc,od, .func (PySem.W.fnOf x x (defArgs st) (defBody st) (defScope st) .none kV doc pm an cdv ct),osl⟩)
  (d:aBf tab [] st=some (n,M):=by kernel_rfl) (c:codeIn K cdv x=true:=by kernel_rfl) (kp:keepIn K (.ref f)=true:=by kernel_rfl) (hm:nsIn K mainGlobals x=some (some (.ref f)):=by kernel_rfl) (hj:f=ad.fnA fns.length:=by rfl)
  (hdb:(x==("__debug__":Str))=false:=by decide) (hps:cR (defArgs st)=some ps:=by rfl) (hb:Bnd x st ps:=by intro _ _ _ _ _ _ us hl;rcases us with _ | ⟨u0,_ | ⟨u1,_ | ⟨u2,_ | ⟨u3,_ | ⟨u4,us⟩⟩⟩⟩⟩<;>first | rfl | (simp at hl)):
  PQ P w K mg base h ad (k+1) ((x, .fn fns.length n M)::tab) (fns++[(n,M)]):=T.addV x st f ps n M l [] (.inr rfl) d c kp hm hj hdb hps hb
theorem PQ.py (T:PQ P w K mg base h ad 0 tab []) (p:Py) (hm:nsIn K mainGlobals (cS p)=some none:=by kernel_rfl) (hdb:(cS p==("__debug__":Str))=false:=by decide):PQ P w K mg base h ad 0 ((cS p, .py p)::tab) []:=⟨cT.cons T.t hdb ⟨rfl,PySem.W.mg_none_of T.X T.G hm⟩,T.u,T.X,T.G,T.B⟩
theorem PQ.verr (T:PQ P w K mg base h ad 0 tab []) (hm:nsIn K mainGlobals "ValueError"=some none:=by kernel_rfl):PQ P w K mg base h ad 0 (("ValueError", .verr)::tab) []:=⟨cT.cons T.t (by decide) ⟨rfl,PySem.W.mg_none_of T.X T.G hm⟩,T.u,T.X,T.G,T.B⟩
theorem PQ.exc (T:PQ P w K mg base h ad 0 tab []) (x:Str) (c:Nat) (hm:nsIn K mainGlobals x=some (some (.ref (ad.cls c))):=by kernel_rfl) (hc:c<ad.nb:=by decide) (hdb:(x==("__debug__":Str))=false:=by decide):PQ P w K mg base h ad 0 ((x, .exc c)::tab) []:=⟨cT.cons T.t hdb ⟨PySem.W.mg_of T.X T.G hm,hc⟩,T.u,T.X,T.G,T.B⟩
theorem PQ.int (T:PQ P w K mg base h ad 0 tab []) (x:Str) (i:Int) (t:Tok) (hm:nsIn K mainGlobals x=some (some (.int i t)):=by kernel_rfl) (hdb:(x==("__debug__":Str))=false:=by decide):PQ P w K mg base h ad 0 ((x, .val (.int i))::tab) []:=⟨cT.cons T.t hdb ⟨.int i t, .int i,PySem.W.mg_of T.X T.G hm,⟨_,rfl⟩,fun G=>by unfold Rep;rfl⟩,T.u,T.X,T.G,T.B⟩
theorem PQ.nil (X:K.In h) (G:h.Ns mainGlobals mg) (B:ExcK K ad):PQ P w K mg base h ad 0 [] []:=⟨cT.nil,eB.nil,X,G,B⟩
end
inductive OutM where
 | nx (ρ:Rho) (b:Bool) | rt (x:R) (ρ:Rho) (b:Bool) | ex (c:Nat) (b:Bool) | bad
abbrev FSM:=Rho->Bool->OutM
noncomputable def vS (b:Bool) (r:R) (k:D->OutM):OutM:=match r with
 | .ok d=>k d
 | .ow xs=>k (.lst xs)
 | .ex c=> .ex c b
 | .bad=> .bad
noncomputable def cM:FSM:=fun ρ b=> .nx ρ b
noncomputable def cZ (g h:FSM):FSM:=fun ρ b=>match g ρ b with
 | .nx ρ' b'=>h ρ' b'
 | o=>o
noncomputable def mIf (f:F) (g h:FSM):FSM:=fun ρ b=>match f ρ with
 | .ok (.bl k)=>if k then g ρ b else h ρ b
 | .ex c=> .ex c b
 | _=> .bad
noncomputable def aEo (i:Nat) (f:F):FSM:=fun ρ b=>vS b (f ρ) fun d=> .nx (ρ.set (i+1) (.sh d)) b
noncomputable def qP (f:F):FSM:=fun ρ b=>vS b (f ρ) fun _=> .nx ρ b
noncomputable def qQ (f:F):FSM:=fun ρ b=>match f ρ with
 | .ex c=> .ex c b
 | x=> .rt x ρ b
noncomputable def l7 (c:Nat):FSM:=fun _ b=> .ex c b
def StB (b:Bool) (foot:List Addr) (G₀ H₀ G H:Hp):Prop:=if b=true then StepR foot G₀ H₀ G H else Step G₀ H₀ G H
theorem StepR.step {foot:List Addr} {G₀ H₀ G H G1 H1:Hp} (a:StepR foot G₀ H₀ G H) (t:Step G H G1 H1) (fr: ∀ b,H₀ b≠none->H b≠none):StepR foot G₀ H₀ G1 H1:=
 ⟨a.sg.trans t.sg,t.gh,fun b o hb e=>t.sh _ _ (a.sh b o hb e),fun b h1 h2=>by
  cases q:G b with
  | none=>
   have:=t.nw b q h2
   cases z:H₀ b with
   | none=>rfl
   | some o=>exact absurd this (fr b (by rw [z];exact fun y=>nomatch y))
  | some o=>exact a.nw b h1 (by rw [q];exact fun z=>nomatch z),fun b hb=>by
  cases q:H b with
  | none=>exact absurd q (fr b hb)
  | some o=>rw [t.sh b o q];exact fun z=>nomatch z⟩
theorem Step.toR {foot:List Addr} {G₀ H₀ G H:Hp} (a:Step G₀ H₀ G H):StepR foot G₀ H₀ G H:=⟨a.sg,a.gh,fun b o _ e=>a.sh b o e,a.nw,fun b hb=>by
 cases q:H₀ b with
 | none=>exact absurd q hb
 | some o=>rw [a.sh b o q];exact fun z=>nomatch z⟩
noncomputable def shN:Slot->Bool
 | .no=>true
 | .sh _=>true
 | _=>false
structure SM (X:Cx) (ad:Ad) (A:Nat) (G₀:Hp) (p dx d l1 l20:Addr) (b:Bool) (G H:Hp) (ρ:Rho) (σ:St):Prop where
 sl:SL X.K ad G H ρ σ
 gh:Same G H
 me:σ[0]? =some (some (.ref p))
 rk: ∃ r l2,ρ[0]? =some (.rk A r)/\RackIn X.K ad A G H p r dx d l1 l2/\(l2=l20\/X.H₀ l2=none)
 st:StB b [p,dx,d,l1,l20] G₀ X.H₀ G H
 fr: ∀ c,X.H₀ c≠none->H c≠none
 on: ∀ j sl,ρ[j+1]? =some sl->shN sl=true
def OKm (X:Cx) (ad:Ad) (A:Nat) (G₀:Hp) (p dx d l1 l20:Addr) (o:OutM) (D':Ends) (E:Nat->Hp->Prop):Prop:=match o with
 | .nx ρ b=> ∀ σ G H,SM X ad A G₀ p dx d l1 l20 b G H ρ σ->D'.nx σ H
 | .rt (.ok x) ρ b=> ∀ σ G H v,SM X ad A G₀ p dx d l1 l20 b G H ρ σ->Rep X.K ad G x v->D'.rt v H
 | .rt (.ow xs) _ b=>b=false/\ ∀ q vs G H,Step G₀ X.H₀ G H->X.H₀ q=none->G q=none->H q=some (.lst vs)->aE X.K ad G xs vs->D'.rt (.ref q) H
 | .ex c b=>b=false/\ ∀ G H,Step G₀ X.H₀ G H->E c H
 | _=>False
noncomputable def tM (X:Cx) (ad:Ad) (A:Nat) (E:Nat->Hp->Prop) (g:FSM):TS:=fun D' σ H=> ∃ G₀ p dx d l1 l20 G ρ b,SM X ad A G₀ p dx d l1 l20 b G H ρ σ/\OKm X ad A G₀ p dx d l1 l20 (g ρ b) D' E
abbrev MM (X:Cx) (ad:Ad) (A:Nat) (E:Nat->Hp->Prop) (st:Stmt) (g:FSM):Prop:=PS X st (tM X ad A E g)
abbrev MMs (X:Cx) (ad:Ad) (A:Nat) (E:Nat->Hp->Prop) (sts:List Stmt) (g:FSM):Prop:=PSs X sts (tM X ad A E g)
section
variable {X:Cx} {ad:Ad} {A:Nat} {G₀ G H G1 H1:Hp} {p dx d l1 l20:Addr} {b:Bool} {ρ:Rho} {σ:St} {E:Nat->Hp->Prop} {D':Ends} {f:F} {g h:FSM} {e c:Expr} {st:Stmt} {sts:List Stmt} {pos pos':Pos}
theorem SM.step (S:SM X ad A G₀ p dx d l1 l20 b G H ρ σ) (t:Step G H G1 H1):SM X ad A G₀ p dx d l1 l20 b G1 H1 ρ σ:=by
 obtain⟨r,l2,h1,h2,h3⟩:=S.rk
 refine⟨S.sl.step t,t.gh,S.me,⟨r,l2,h1,h2.step t,h3⟩, ?_,fun c hc=> ?_,S.on⟩
 ·have z:=S.st
  unfold StB at z ⊢
  by_cases hb:b=true
  ·rw [if_pos hb] at z ⊢
   exact z.step t S.fr
  ·rw [if_neg hb] at z ⊢
   exact z.trans t
 ·cases q:H c with
  | none=>exact absurd q (S.fr c hc)
  | some o=>rw [t.sh c o q];exact fun z=>nomatch z
theorem jB {k:D->OutM} {Q':VK} (S:SM X ad A G₀ p dx d l1 l20 b G H ρ σ) (hx:XP X ad σ E) (hr:OKm X ad A G₀ p dx d l1 l20 (vS b (f ρ) k) D' E)
  (q: ∀ v x G1 H1,SM X ad A G₀ p dx d l1 l20 b G1 H1 ρ σ->Rep X.K ad G1 x v->OKm X ad A G₀ p dx d l1 l20 (k x) D' E->Step G H G1 H1->Q' v H1):tE X ad f σ H Q':=by
 refine⟨G,ρ,E,S.gh,S.sl,hx, ?_⟩
 cases e:f ρ with
 | ok x=>
  rw [e] at hr
  exact fun v G1 H1 t r=>q v x G1 H1 (S.step t) r hr t
 | ow xs=>
  rw [e] at hr
  intro a vs G1 H1 t n m e' r
  obtain⟨G2,t2,r2⟩:=bB (X:=X) (ad:=ad) t n m e' r
  exact q _ _ G2 H1 (S.step t2) r2 hr t2
 | ex c=>
  rw [e] at hr
  obtain⟨hb,hr⟩:=hr
  have z:=S.st
  unfold StB at z
  rw [hb,if_neg bg] at z
  exact fun G1 H1 t=>hr G1 H1 (z.trans t)
 | bad=>
  rw [e] at hr
  exact hr
theorem aC2:MM X ad A E (.Pass pos) cM:=PS.imp rF fun D' σ H ⟨G₀,p,dx,d,l1,l20,G,ρ,b,S,hr⟩=>hr σ G H S
theorem aC3:MMs X ad A E [] cM:=PSs.imp rE fun D' σ H ⟨G₀,p,dx,d,l1,l20,G,ρ,b,S,hr⟩=>hr σ G H S
theorem xO (h1:MM X ad A E st g) (h2:MMs X ad A E sts h):MMs X ad A E (st::sts) (cZ g h):=by
 refine PSs.imp (fW h1 h2) ?_
 rintro D' σ H ⟨G₀,p,dx,d,l1,l20,G,ρ,b,S,hr⟩
 refine⟨G₀,p,dx,d,l1,l20,G,ρ,b,S, ?_⟩
 unfold cZ at hr
 cases e:g ρ b with
 | nx ρ' b'=>
  rw [e] at hr
  exact fun σ' G' H' S'=>⟨G₀,p,dx,d,l1,l20,G',ρ',b',S',hr⟩
 | rt x ρ' b'=>
  rw [e] at hr
  cases x with
  | ok x=>exact hr
  | ow xs=>exact hr
  | ex c=>exact hr
  | bad=>exact hr
 | ex c b'=>rw [e] at hr;exact hr
 | bad=>rw [e] at hr;exact hr
theorem aKy {a b:List Stmt} (hx: ∀ σ,XP X ad σ E) (hc:MT X ad c f) (ha:MMs X ad A E a g) (hb:MMs X ad A E b h):MM X ad A E (.If c a b pos) (mIf f g h):=by
 refine PS.imp (aAq hc ha hb) ?_
 rintro D' σ H ⟨G₀,p,dx,d,l1,l20,G,ρ,b,S,hr⟩
 unfold mIf at hr
 cases e:f ρ with
 | ok x=>
  rw [e] at hr
  cases x<;>try exact hr.elim
  rename_i k
  refine⟨G,ρ,E,S.gh,S.sl,hx σ, .inl ⟨k,e⟩, ?_⟩
  rw [e]
  intro v G1 H1 t r
  unfold Rep at r;subst r
  refine⟨k,rfl, ?_⟩
  have hr':OKm X ad A G₀ p dx d l1 l20 (if k=true then g ρ b else h ρ b) D' E:=hr
  cases k
  ·rw [if_neg bg] at hr'
   show if false=true then _ else _
   rw [if_neg bg]
   exact⟨G₀,p,dx,d,l1,l20,G1,ρ,b,S.step t,hr'⟩
  ·rw [if_pos rfl] at hr'
   show if true=true then _ else _
   rw [if_pos rfl]
   exact⟨G₀,p,dx,d,l1,l20,G1,ρ,b,S.step t,hr'⟩
 | ow xs=>rw [e] at hr;exact hr.elim
 | ex c=>
  rw [e] at hr
  obtain⟨hb,hr⟩:=hr
  have z:=S.st
  unfold StB at z
  rw [hb,if_neg bg] at z
  refine⟨G,ρ,E,S.gh,S.sl,hx σ, .inr ⟨c,e⟩, ?_⟩
  rw [e]
  exact fun G1 H1 t=>hr G1 H1 (z.trans t)
 | bad=>rw [e] at hr;exact hr.elim
theorem SM.set {i:Nat} {x:D} {v:V} (S:SM X ad A G₀ p dx d l1 l20 b G H ρ σ) (r:Rep X.K ad G x v):SM X ad A G₀ p dx d l1 l20 b G H (ρ.set (i+1) (.sh x)) (σ.set (i+1) (some v)):=by
 obtain⟨rr,l2,h1,h2,h3⟩:=S.rk
 refine⟨⟨by rw [List.length_set,List.length_set];exact S.sl.len,fun j sl e=> ?_⟩,S.gh,by rw [bd (by omega)];exact S.me,⟨rr,l2,by rw [bd (by omega)];exact h1,h2,h3⟩,S.st,S.fr,fun j sl e=> ?_⟩
 ·by_cases z:j=i+1
  ·subst z
   have hl:i+1<ρ.length:=by have:=(ay.mp e).1;rwa [List.length_set] at this
   rw [bn hl] at e
   cases e
   exact⟨some v,bn (by rw [<-S.sl.len];exact hl),v,rfl,r⟩
  ·rw [bd (Ne.symm z)] at e
   obtain⟨ov,k1,k2⟩:=S.sl.at_ j sl e
   exact⟨ov,by rw [bd (Ne.symm z)];exact k1,k2⟩
 ·by_cases z:j=i
  ·subst z
   have hl:j+1<ρ.length:=by have:=(ay.mp e).1;rwa [List.length_set] at this
   rw [bn hl] at e
   cases e
   rfl
  ·rw [bd (by omega)] at e
   exact S.on j sl e
theorem aC4 (hx: ∀ σ,XP X ad σ E) (he:ME X ad e f) (hs:swapsWith e none pos.line X.env=pure false):MM X ad A E (.Expr e pos) (qP f):=by
 refine PS.imp (dR he hs) ?_
 rintro D' σ H ⟨G₀,p,dx,d,l1,l20,G,ρ,b,S,hr⟩
 exact jB S (hx σ) hr fun v x G1 H1 S1 r k _=>k _ G1 H1 S1
theorem aHo (hx: ∀ σ,XP X ad σ E) (he:ME X ad e f):MM X ad A E (.Return (some e) pos) (qQ f):=by
 refine PS.imp (kG he) ?_
 rintro D' σ H ⟨G₀,p,dx,d,l1,l20,G,ρ,b,S,hr⟩
 refine⟨G,ρ,E,S.gh,S.sl,hx σ, ?_⟩
 unfold qQ at hr
 cases e:f ρ with
 | ok x=>
  rw [e] at hr
  exact fun v G1 H1 t r=>hr σ G1 H1 v (S.step t) r
 | ow xs=>
  rw [e] at hr
  obtain⟨hb,hr⟩:=hr
  have z:=S.st
  unfold StB at z
  rw [hb,if_neg bg] at z
  exact fun q vs G1 H1 t n m e' r=>hr q vs G1 H1 (z.trans t) (z.sh.free n) m e' r
 | ex c=>
  rw [e] at hr
  obtain⟨hb,hr⟩:=hr
  have z:=S.st
  unfold StB at z
  rw [hb,if_neg bg] at z
  exact fun G1 H1 t=>hr G1 H1 (z.trans t)
 | bad=>
  rw [e] at hr
  exact hr
theorem xP {E₀:XK} {x:Str} {k:Nat} {np cpos kp:Pos} {msg:Str} {j:Nat} (T:DefX X E₀) (hc:X.calm=true) (hg:L2.Gl X x) (hm:X.mg x=some (.ref (ad.cls k))) (hd:(x==("__debug__":Str))=false) (hi:excIn X.K (ad.cls k) [.type "ValueError", .type "Exception", .type "BaseException", .type "object"] "ValueError.__new__"=true) (hE: ∀ c H,E c H->E₀ (.ref (ad.cls c)) none H):
  MM X ad A E (.Raise (some (.Call (.Name x np) [.Constant (.str msg) j kp] [] cpos)) none pos) (l7 k):=by
 intro pins s σ H D' I ⟨G₀,p,dx,d,l1,l20,G,ρ,b,S,hr⟩
 obtain⟨hb,hr⟩:=hr
 have z:=S.st
 unfold StB at z
 rw [hb,if_neg bg] at z
 exact oX T hc hg hm hd hi I (hE k H (hr G H z))
end
noncomputable def aI7 (kvs:List (Str×D)) (x:Str) (d:D):List (Str×D):=if(kvs.any fun p=>decide (p.1=x))=true then kvs.map (fun p=>if p.1=x then(p.1,d) else p) else kvs++[(x,d)]
noncomputable def xQ (kvs:List (Str×D)) (x:Str):List (Str×D):=kvs.filter fun p=>decide (p.1≠x)
noncomputable def mUp (A:Nat) (ρ:Rho) (k:Rk->OutM):OutM:=match(ρ[0]? :Option Slot) with
 | some (.rk C r)=>if C=A then k r else .bad
 | _=> .bad
noncomputable def setR (A:Nat) (ρ:Rho) (r:Rk):OutM:= .nx (ρ.set 0 (.rk A r)) true
noncomputable def aMa (bb:Bool) (r:Rk) (d:D):Rk:=if bb then { r with done:=r.done++[d] } else { r with undone:=r.undone++[d] }
noncomputable def aMb (bb:Bool) (r:Rk):Rk:=if bb then { r with done:=r.done.dropLast } else { r with undone:=r.undone.dropLast }
noncomputable def aHp (A:Nat) (bb:Bool) (f:F):FSM:=fun ρ b=>mUp A ρ fun r=>vS b (f ρ) fun d=>if(vQ bb r).length<LIM then setR A ρ (aMa bb r d) else .bad
noncomputable def xR (A i:Nat) (bb:Bool):FSM:=fun ρ _=>mUp A ρ fun r=>match(vQ bb r).getLast? with
 | some d=> .nx ((ρ.set 0 (.rk A (aMb bb r))).set (i+1) (.sh d)) true
 | none=> .bad
noncomputable def uR (A:Nat):FSM:=fun ρ _=>mUp A ρ fun r=>setR A ρ { r with undone:=[] }
noncomputable def aC5 (A:Nat) (f g:F):FSM:=fun ρ b=>vS b (g ρ) fun v=>mUp A ρ fun r=>vS b (f ρ) fun k=>match k with
 | .str x=>if r.held.length<LIM then setR A ρ { r with held:=aI7 r.held x v } else .bad
 | _=> .bad
noncomputable def aC6 (A:Nat) (f:F):FSM:=fun ρ b=>mUp A ρ fun r=>vS b (f ρ) fun k=>match k with
 | .str x=>if(mY r.held x).isSome then setR A ρ { r with held:=xQ r.held x } else .bad
 | _=> .bad
noncomputable def aMc (b:Bool) (r:RA) (k:List D->OutM):OutM:=match r with
 | .ok ds=>k ds
 | .ex c=> .ex c b
 | .bad=> .bad
section
variable {X:Cx} {ad:Ad} {A:Nat} {G₀ G H G1 H1:Hp} {p dx d l1 l2 l20:Addr} {b:Bool} {ρ:Rho} {σ:St} {E:Nat->Hp->Prop} {D':Ends} {f g:F} {e:Expr} {pos pos' ap cp np qp:Pos} {x:Str} {r r':Rk}
theorem jC {k:Rk->OutM} (hr:OKm X ad A G₀ p dx d l1 l20 (mUp A ρ k) D' E): ∃ r,ρ[0]? =some (.rk A r)/\OKm X ad A G₀ p dx d l1 l20 (k r) D' E:=by
 unfold mUp at hr
 split at hr
 ·rename_i C r e
  by_cases hc:C=A
  ·rw [if_pos hc] at hr
   subst hc
   exact⟨r,e,hr⟩
  ·rw [if_neg hc] at hr
   exact hr.elim
 ·exact hr.elim
theorem SM.toR (S:SM X ad A G₀ p dx d l1 l20 b G H ρ σ):StepR [p,dx,d,l1,l20] G₀ X.H₀ G H:=by
 have z:=S.st
 unfold StB at z
 by_cases hb:b=true
 ·rw [if_pos hb] at z;exact z
 ·rw [if_neg hb] at z;exact z.toR
theorem SM.chg {a:Addr} {o:HO} (S:SM X ad A G₀ p dx d l1 l20 b G H ρ σ) (hf:a∈[p,dx,d,l1,l20]\/X.H₀ a=none) (ga:G a=none) (hR:RackIn X.K ad A G (upd H a o) p r' dx d l1 l2) (h2:l2=l20\/X.H₀ l2=none):
  SM X ad A G₀ p dx d l1 l20 true G (upd H a o) (ρ.set 0 (.rk A r')) σ:=by
 have hl:0<ρ.length:=by
  obtain⟨r,_,h1,_⟩:=S.rk
  exact(ay.mp h1).1
 have gh:Same G (upd H a o):=fun c u e=>by
  have ne:c≠a:=fun z=>by rw [z,ga] at e;cases e
  rw [aA ne]
  exact S.gh c u e
 refine⟨⟨by rw [List.length_set];exact S.sl.len,fun j sl e=> ?_⟩,gh,S.me,⟨r',l2,bn hl,hR,h2⟩, ?_,fun c hc=> ?_,fun j sl e=> ?_⟩
 ·cases j with
  | zero=>
   rw [bn hl] at e
   cases e
   exact⟨_,S.me,p,dx,d,l1,l2,rfl,hR⟩
  | succ j=>
   rw [bd (by omega)] at e
   obtain⟨ov,k1,k2⟩:=S.sl.at_ _ sl e
   have hs:=S.on j sl e
   refine⟨ov,k1, ?_⟩
   cases sl with
   | no=>trivial
   | sh d=>exact k2
   | _=>cases hs
 ·show StB true _ _ _ _ _
  unfold StB
  rw [if_pos rfl]
  have z:=S.toR
  refine⟨z.sg,gh,fun c u hc e=> ?_,z.nw,fun c hc=>by
   by_cases q:c=a
   ·subst q;rw [aC];exact fun z=>nomatch z
   ·rw [aA q];exact S.fr c hc⟩
  have ne:c≠a:=fun q=>by
   subst q
   rcases hf with hf | hf
   ·exact hc hf
   ·rw [hf] at e;cases e
  rw [aA ne]
  exact z.sh c u hc e
 ·by_cases q:c=a
  ·subst q;rw [aC];exact fun z=>nomatch z
  ·rw [aA q];exact S.fr c hc
 ·rw [bd (by omega)] at e
  exact S.on j sl e
theorem zW {l2:Addr} (h2:l2=l20\/X.H₀ l2=none):l2∈[p,dx,d,l1,l20]\/X.H₀ l2=none:=h2.elim (fun z=> .inl (by rw [z];simp)) .inr
theorem RackIn.list {vs:List V} (bb:Bool) (h:RackIn X.K ad A G H p r dx d l1 l2) {ds:List D} (rv:aE X.K ad G ds vs):RackIn X.K ad A G (upd H (if bb then l1 else l2) (.lst vs)) p (if bb then { r with done:=ds } else { r with undone:=ds }) dx d l1 l2:=by
 obtain⟨kvs,a1,a2⟩:=h.held
 obtain⟨v1,b1,b2⟩:=h.done
 obtain⟨v2,c1,c2⟩:=h.undone
 have np: ∀ {l:Addr} {ws:List V},H l=some (.lst ws)->p≠l/\dx≠l/\d≠l:=fun {l ws} hl=>
  ⟨(fun z=>by rw [<-z,h.ins] at hl;cases hl),(fun z=>by rw [<-z,h.own] at hl;cases hl),(fun z=>by rw [<-z,a1] at hl;cases hl)⟩
 cases bb
 ·obtain⟨q1,q2,q3⟩:=np c1
  exact⟨by show upd H l2 _ _=_;rw [aA q1];exact h.ins,by show upd H l2 _ _=_;rw [aA q2];exact h.own,⟨kvs,by show upd H l2 _ _=_;rw [aA q3];exact a1,a2⟩,⟨v1,by show upd H l2 _ _=_;rw [aA h.ne];exact b1,b2⟩,⟨vs,aC,rv⟩,h.ne,h.gp,h.gx,h.gd,h.g1,h.g2⟩
 ·obtain⟨q1,q2,q3⟩:=np b1
  exact⟨by show upd H l1 _ _=_;rw [aA q1];exact h.ins,by show upd H l1 _ _=_;rw [aA q2];exact h.own,⟨kvs,by show upd H l1 _ _=_;rw [aA q3];exact a1,a2⟩,⟨vs,aC,rv⟩,⟨v2,by show upd H l1 _ _=_;rw [aA h.ne.symm];exact c1,c2⟩,h.ne,h.gp,h.gx,h.gd,h.g1,h.g2⟩
theorem zX (bb:Bool) (RC:RkC X.K A) (h:RackIn X.K ad A G H p r dx d l1 l2) (hi:σ[0]? =some (some (.ref p))) {Q:VK} (q:Q (.ref (if bb then l1 else l2)) H):aIw X.K (aEx 0) (if bb then "done" else "undone") σ H Q:=by
 cases bb
 ·exact eJ RC h hi (fd:="undone") rfl RC.n3 q
 ·exact eJ RC h hi (fd:="done") rfl RC.n2 q
theorem uS (bb:Bool) (h:RackIn X.K ad A G H p r dx d l1 l2): ∃ vs,H (if bb then l1 else l2)=some (.lst vs)/\aE X.K ad G (vQ bb r) vs/\G (if bb then l1 else l2)=none:=by
 cases bb
 ·obtain⟨v2,c1,c2⟩:=h.undone;exact⟨v2,c1,c2,h.g2⟩
 ·obtain⟨v1,b1,b2⟩:=h.done;exact⟨v1,b1,b2,h.g1⟩
theorem aHq (bb:Bool) (hx: ∀ σ,XP X ad σ E) (RC:RkC X.K A) (hN:X.N[0]? =some x) (hv:Vis X.env.scope x) (hd:(x==("__debug__":Str))=false) (hcd:(x==("__classdict__":Str))=false) (he:ME X ad e f) (hs:starEach [e] X.env=(false,eval e X.env)::starEach [] X.env) (hl:(ap.endLine==cp.line)=true):
  MM X ad A E (.Expr (.Call (.Attribute (.Attribute (.Name x np) (if bb then "done" else "undone") qp) "append" ap) [e] [] cp) pos) (aHp A bb f):=by
 refine PS.imp (dR (wA (T:="list") PySem.F.plainAttrs_list PySem.F.slot_list_append PySem.F.type_list_append eV (eE (aV hN hv hd hcd) rfl) (bU he cI hs) rfl (d6 hs) hl hs rfl) rfl) ?_
 rintro D' σ H ⟨G₀,p,dx,d,l1,l20,G,ρ,b,S,hr⟩
 obtain⟨r,e0,hr⟩:=jC hr
 obtain⟨r1,l2,f1,hR,h2⟩:=S.rk
 rw [e0] at f1
 cases f1
 obtain⟨vs,k1,k2,k3⟩:=uS bb hR
 unfold aAo tBM
 refine zX bb RC hR S.me ?_
 refine⟨.inl ⟨rfl,vs,SqL.of k1⟩, ?_⟩
 refine jB S (hx σ) hr fun v y G1 H1 S1 rv k st=> ?_
 have hR1:=hR.step st
 obtain⟨ws,m1,m2,m3⟩:=uS bb hR1
 by_cases hc:(vQ bb r).length<LIM
 ·rw [if_pos hc] at k
  refine⟨_,ws,v,rfl,rfl,m1,by rw [m2.length];exact bh hc (by decide), ?_⟩
  have hf:(if bb then l1 else l2)∈[p,dx,d,l1,l20]\/X.H₀ (if bb then l1 else l2)=none:=by
   cases bb
   ·exact zW h2
   ·exact .inl (by simp)
  refine k σ G1 _ (S1.chg (r':=aMa bb r y) hf m3 ?_ h2)
  have z:=hR1.list bb (m2.append (aE.cons rv aE.nil))
  cases bb<;>exact z
 ·rw [if_neg hc] at k
  exact k.elim
theorem aC7 {i:Nat} {y:Str} {yp:Pos} (bb:Bool) (RC:RkC X.K A) (hN:X.N[0]? =some x) (hv:Vis X.env.scope x) (hd:(x==("__debug__":Str))=false) (hcd:(x==("__classdict__":Str))=false) (hl:(ap.endLine==cp.line)=true)
  (hnd:X.N.Nodup) (hi:X.N[i+1]? =some y) (hlo:Loc X.env.scope y) (hf:X.fn y=true\/X.env.scope.names.lookup y=some .local):
  MM X ad A E (.Assign [.Name y yp] (.Call (.Attribute (.Attribute (.Name x np) (if bb then "done" else "undone") qp) "pop" ap) [] [] cp) pos) (xR A i bb):=by
 refine PS.imp (kH (i:=i+1) hnd hi hlo (aFt (T:="list") PySem.F.plainAttrs_list PySem.F.slot_list_pop PySem.F.type_list_pop aFu (eE (aV hN hv hd hcd) rfl) rfl hl) rfl hf) ?_
 rintro D' σ H ⟨G₀,p,dx,d,l1,l20,G,ρ,b,S,hr⟩
 obtain⟨r,e0,hr⟩:=jC hr
 obtain⟨r1,l2,f1,hR,h2⟩:=S.rk
 rw [e0] at f1
 cases f1
 obtain⟨vs,k1,k2,k3⟩:=uS bb hR
 unfold aAs aLp
 refine zX bb RC hR S.me ?_
 refine⟨.inl ⟨rfl,vs,SqL.of k1⟩, ?_⟩
 cases hg:(vQ bb r).getLast? with
 | none=>rw [hg] at hr;exact hr.elim
 | some dl=>
  rw [hg] at hr
  have hg':(vQ bb r)[(vQ bb r).length - 1]? =some dl:=by rw [<-List.getLast?_eq_getElem?];exact hg
  obtain⟨v,e1,rv⟩:=k2.get hg'
  refine⟨_,vs,v,rfl,rfl,k1,by rw [k2.length];exact e1, ?_⟩
  have hf:(if bb then l1 else l2)∈[p,dx,d,l1,l20]\/X.H₀ (if bb then l1 else l2)=none:=by
   cases bb
   ·exact zW h2
   ·exact .inl (by simp)
  have rd:aE X.K ad G (vQ bb r).dropLast vs.dropLast:=by
   rw [List.dropLast_eq_take,List.dropLast_eq_take,k2.length]
   exact k2.take _
  refine hr _ G _ (SM.set (i:=i) (S.chg (r':=aMb bb r) hf k3 ?_ h2) rv)
  have z:=hR.list bb rd
  cases bb<;>exact z
end
noncomputable def j7 (A:Nat) (M:FM) (fs:List F):FSM:=fun ρ b=>mUp A ρ fun r=>aMc b (args fs ρ) fun ds=>match M r ds with
 | .pure x=>vS b x fun _=> .nx ρ b
 | .chg _ r'=> .nx (ρ.set 0 (.rk A r')) true
section
variable {X:Cx} {ad:Ad} {A n:Nat} {G₀ G H G1 H1:Hp} {p dx d l1 l2 l20:Addr} {b:Bool} {ρ:Rho} {σ:St} {E:Nat->Hp->Prop} {D':Ends} {f g:F} {fs:List F} {e k v:Expr} {es:List Expr} {pos pos' ap cp np qp kp lp:Pos} {x m:Str} {r r':Rk} {M:FM}
theorem xS (RC:RkC X.K A) (hN:X.N[0]? =some x) (hv:Vis X.env.scope x) (hd:(x==("__debug__":Str))=false) (hcd:(x==("__classdict__":Str))=false):
  MM X ad A E (.Assign [.Attribute (.Name x np) "undone" qp] (.List [] lp) pos) (uR A):=by
 refine PS.imp (n6 (aV hN hv hd hcd) (n9 cI) rfl) ?_
 rintro D' σ H ⟨G₀,p,dx,d,l1,l20,G,ρ,b,S,hr⟩
 obtain⟨r,e0,hr⟩:=jC hr
 obtain⟨r1,l2,f1,hR,h2⟩:=S.rk
 rw [e0] at f1
 cases f1
 refine⟨bu _,fun l n=> ?_⟩
 have st:Step G H G (upd H l (.lst [])):=Step.own S.gh n
 have S1:=S.step st
 have hR1:=hR.step st
 have n0:X.H₀ l=none:=by
  cases q:X.H₀ l with
  | none=>rfl
  | some o=>exact absurd n (S.fr l (by rw [q];exact fun z=>nomatch z))
 obtain⟨kvs,a1,a2⟩:=hR1.held
 obtain⟨v1,b1,b2⟩:=hR1.done
 have el:upd H l (.lst []) l=some (.lst []):=aC
 have ne: ∀ {c:Addr} {o:HO},upd H l (.lst []) c=some o->(∀ fs,o≠ .ins A dx fs)->c≠p:=fun {c o} hc ho z=>by
  rw [z,hR1.ins] at hc
  cases hc
  exact ho _ rfl
 have nl:l1≠l:=fun z=>by
  obtain⟨w,q1,_⟩:=hR.done
  rw [z,n] at q1
  cases q1
 refine⟨.ref p,S.me,p,A,dx,_,rfl,hR1.ins,RC.cl,RC.n3,by show 3<1000;decide, ?_⟩
 refine hr σ G _ (S1.chg (r':={ r with undone:=[] }) (l2:=l) (.inl (by simp)) hR1.gp ?_ (.inr n0))
 exact⟨aC,by rw [aA (ne hR1.own fun _ z=>nomatch z)];exact hR1.own,⟨kvs,by rw [aA (ne a1 fun _ z=>nomatch z)];exact a1,a2⟩,⟨v1,by rw [aA (ne b1 fun _ z=>nomatch z)];exact b1,b2⟩,
  ⟨[],by rw [aA (ne el fun _ z=>nomatch z)];exact el,aE.nil⟩,nl,hR1.gp,hR1.gx,hR1.gd,hR1.g1,S.gh.free n⟩
theorem aHr {K:Frag} {held:List (Str×D)} {kvs:List (L2.Key×V)} (h:HR K ad G held kvs) (x:Str):(kvs.any fun q=>decide (q.1=(Sum.inr x:L2.Key)))=held.any fun p=>decide (p.1=x):=by
 induction h with
 | nil=>rfl
 | @cons p q ps qs hq t ih=>
  rw [List.any_cons,List.any_cons,ih]
  have e:decide (q.1=(Sum.inr x:L2.Key))=decide (p.1=x):=by
   rw [hq.1]
   by_cases z:p.1=x
   ·rw [z];simp
   ·simp [z]
  rw [e]
theorem aHs {K:Frag} {held:List (Str×D)} {kvs:List (L2.Key×V)} {y:D} {v:V} (h:HR K ad G held kvs) (rv:Rep K ad G y v) (x:Str):HR K ad G (aI7 held x y) (L2.putK kvs (Sum.inr x) v):=by
 unfold aI7 L2.putK
 rw [aHr h x]
 by_cases hc:(held.any fun p=>decide (p.1=x))=true
 ·rw [if_pos hc,if_pos hc]
  clear hc
  induction h with
  | nil=>exact .nil
  | @cons p q ps qs hq t ih=>
   rw [List.map_cons,List.map_cons]
   refine .cons ?_ ih
   by_cases z:p.1=x
   ·have z':q.1=(Sum.inr x:L2.Key):=by rw [hq.1,z]
    rw [if_pos z,if_pos z']
    exact⟨hq.1,rv⟩
   ·have z': ¬ q.1=(Sum.inr x:L2.Key):=fun y=>z (by rw [hq.1] at y;exact Sum.inr.inj y)
    rw [if_neg z,if_neg z']
    exact hq
 ·rw [if_neg hc,if_neg hc]
  clear hc
  induction h with
  | nil=>exact .cons ⟨rfl,rv⟩ .nil
  | cons hq t ih=>exact .cons hq ih
theorem aC8 {K:Frag} {held:List (Str×D)} {kvs:List (L2.Key×V)} (h:HR K ad G held kvs) (x:Str):HR K ad G (xQ held x) (L2.dropK kvs (Sum.inr x)):=by
 unfold xQ L2.dropK
 induction h with
 | nil=>exact .nil
 | @cons p q ps qs hq t ih=>
  rw [List.filter_cons,List.filter_cons]
  by_cases z:p.1=x
  ·have z':q.1=(Sum.inr x:L2.Key):=by rw [hq.1,z]
   simp only [z,z',ne_eq,not_true_eq_false,decide_false,az,if_false]
   exact ih
  ·have z': ¬ q.1=(Sum.inr x:L2.Key):=fun y=>z (by rw [hq.1] at y;exact Sum.inr.inj y)
   simp only [z,z',ne_eq,not_false_eq_true,decide_true,if_true]
   exact .cons hq ih
theorem RackIn.dict {kvs:List (L2.Key×V)} {held:List (Str×D)} (h:RackIn X.K ad A G H p r dx d l1 l2) (rv:HR X.K ad G held kvs):RackIn X.K ad A G (upd H d (.dK kvs)) p { r with held:=held } dx d l1 l2:=by
 obtain⟨kvs0,a1,a2⟩:=h.held
 obtain⟨v1,b1,b2⟩:=h.done
 obtain⟨v2,c1,c2⟩:=h.undone
 have ne: ∀ {c:Addr} {o:HO},H c=some o->(∀ fs,o≠ .dK fs)->c≠d:=fun {c o} hc ho z=>by
  rw [z,a1] at hc
  cases hc
  exact ho _ rfl
 exact⟨by rw [aA (ne h.ins fun _ z=>nomatch z)];exact h.ins,by rw [aA (ne h.own fun _ z=>nomatch z)];exact h.own,⟨kvs,aC,rv⟩,⟨v1,by rw [aA (ne b1 fun _ z=>nomatch z)];exact b1,b2⟩,
  ⟨v2,by rw [aA (ne c1 fun _ z=>nomatch z)];exact c1,c2⟩,h.ne,h.gp,h.gx,h.gd,h.g1,h.g2⟩
theorem aC9 (hu:X.A.units+62<cLine) (hx: ∀ σ,XP X ad σ E) (RC:RkC X.K A) (hN:X.N[0]? =some x) (hv:Vis X.env.scope x) (hd:(x==("__debug__":Str))=false) (hcd:(x==("__classdict__":Str))=false) (hk:ME X ad k f) (hw:ME X ad v g) (hs:swapsWith v (some (.Subscript (.Attribute (.Name x np) "held" qp) k kp)) pos.line X.env=pure false):
  MM X ad A E (.Assign [.Subscript (.Attribute (.Name x np) "held" qp) k kp] v pos) (aC5 A f g):=by
 refine PS.imp (aCr (by omega) (eE (aV hN hv hd hcd) rfl) hk hw hs) ?_
 rintro D' σ H ⟨G₀,p,dx,d,l1,l20,G,ρ,b,S,hr⟩
 refine jB S (hx σ) hr fun w y G1 H1 S1 rw_ hr1 st=> ?_
 obtain⟨r,e0,hr1⟩:=jC hr1
 obtain⟨r1,l2,f1,hR,h2⟩:=S1.rk
 rw [e0] at f1
 cases f1
 refine eJ RC hR S1.me (fd:="held") rfl RC.n1 ?_
 refine jB S1 (hx σ) hr1 fun u z G2 H2 S2 ru k2 st2=> ?_
 cases z with
 | str q=>
  unfold Rep at ru
  subst ru
  have hR2:=hR.step st2
  obtain⟨kvs,a1,a2⟩:=hR2.held
  have hl:kvs.length=r.held.length:=(Paired.length a2).symm
  have k3:OKm X ad A G₀ p dx d l1 l20 (if r.held.length<LIM then setR A ρ { r with held:=aI7 r.held q y } else .bad) D' E:=k2
  by_cases hc:r.held.length<LIM
  ·rw [if_pos hc] at k3
   refine⟨d,_,rfl,aHb.k (k:=Sum.inr q) a1 (by rw [hl];exact bh hc (by decide)), ?_⟩
   exact k3 σ G2 _ (S2.chg (.inl (by simp)) hR2.gd (hR2.dict (aHs a2 (rw_.mono st2.sg) q)) h2)
  ·rw [if_neg hc] at k3
   exact k3.elim
 | _=>exact k2.elim
theorem aDa (hx: ∀ σ,XP X ad σ E) (RC:RkC X.K A) (hN:X.N[0]? =some x) (hv:Vis X.env.scope x) (hd:(x==("__debug__":Str))=false) (hcd:(x==("__classdict__":Str))=false) (hk:ME X ad k f) (hm:M1 X (.Attribute (.Name x np) "held" qp) "pop" ap k cp):
  MM X ad A E (.Expr (.Call (.Attribute (.Attribute (.Name x np) "held" qp) "pop" ap) [k] [] cp) pos) (aC6 A f):=by
 refine PS.imp (dR (xI (eE (aV hN hv hd hcd) rfl) hk hm) rfl) ?_
 rintro D' σ H ⟨G₀,p,dx,d,l1,l20,G,ρ,b,S,hr⟩
 obtain⟨r,e0,hr⟩:=jC hr
 obtain⟨r1,l2,f1,hR,h2⟩:=S.rk
 rw [e0] at f1
 cases f1
 obtain⟨kvs0,a0,_⟩:=hR.held
 unfold aAo zR
 refine eJ RC hR S.me (fd:="held") rfl RC.n1 ⟨d,rfl, .inl ⟨kvs0, .inl a0⟩, ?_⟩
 refine jB S (hx σ) hr fun u z G2 H2 S2 ru k2 st2=> ?_
 cases z with
 | str q=>
  unfold Rep at ru
  subst ru
  have hR2:=hR.step st2
  obtain⟨kvs,a1,a2⟩:=hR2.held
  have hh:=gE a2 q
  have k3:OKm X ad A G₀ p dx d l1 l20 (if(mY r.held q).isSome=true then setR A ρ { r with held:=xQ r.held q } else .bad) D' E:=k2
  cases hq:mY r.held q with
  | none=>rw [hq] at k3;exact k3.elim
  | some dd=>
   rw [hq] at k3 hh
   obtain⟨v,e1,_⟩:=hh
   refine⟨kvs,Sum.inr q,v,a1,rfl,e1, ?_⟩
   exact k3 σ G2 _ (S2.chg (.inl (by simp)) hR2.gd (hR2.dict (aC8 a2 q)) h2)
 | _=>exact k2.elim
theorem aDb {k:List D->OutM} {Q':List V->Hp->Prop} (S:SM X ad A G₀ p dx d l1 l20 b G H ρ σ) (hx:XP X ad σ E) (hr:OKm X ad A G₀ p dx d l1 l20 (aMc b (args fs ρ) k) D' E)
  (q: ∀ vs ds G1 H1,SM X ad A G₀ p dx d l1 l20 b G1 H1 ρ σ->aE X.K ad G1 ds vs->ds.length=fs.length->OKm X ad A G₀ p dx d l1 l20 (k ds) D' E->Step G H G1 H1->Q' vs H1):tA X ad fs σ H Q':=by
 refine⟨G,ρ,E,S.gh,S.sl,hx, ?_⟩
 cases e:args fs ρ with
 | ok ds=>
  rw [e] at hr
  exact fun vs G1 H1 t r=>q vs ds G1 H1 (S.step t) r (eY e) hr t
 | ex c=>
  rw [e] at hr
  obtain⟨hb,hr⟩:=hr
  have z:=S.st
  unfold StB at z
  rw [hb,if_neg bg] at z
  exact fun G1 H1 t=>hr G1 H1 (z.trans t)
 | bad=>
  rw [e] at hr
  exact hr
theorem SM.call {l2':Addr} (S:SM X ad A G₀ p dx d l1 l20 b G H ρ σ) (h2:l2=l20\/X.H₀ l2=none) (t:StepR [p,dx,d,l1,l2] G H G1 H1) (hR:RackIn X.K ad A G1 H1 p r' dx d l1 l2') (h3:l2'=l2\/H l2'=none):SM X ad A G₀ p dx d l1 l20 true G1 H1 (ρ.set 0 (.rk A r')) σ:=by
 have hl:0<ρ.length:=by
  obtain⟨r,_,h1,_⟩:=S.rk
  exact(ay.mp h1).1
 have none0: ∀ c,H c=none->X.H₀ c=none:=fun c hc=>by
  cases q:X.H₀ c with
  | none=>rfl
  | some o=>exact absurd hc (S.fr c (by rw [q];exact fun z=>nomatch z))
 refine⟨⟨by rw [List.length_set];exact S.sl.len,fun j sl e=> ?_⟩,t.gh,S.me,⟨r',l2',bn hl,hR, ?_⟩, ?_,fun c hc=>t.th c (S.fr c hc),fun j sl e=> ?_⟩
 ·cases j with
  | zero=>
   rw [bn hl] at e
   cases e
   exact⟨_,S.me,p,dx,d,l1,l2',rfl,hR⟩
  | succ j=>
   rw [bd (by omega)] at e
   obtain⟨ov,k1,k2⟩:=S.sl.at_ _ sl e
   have hs:=S.on j sl e
   refine⟨ov,k1, ?_⟩
   cases sl with
   | no=>trivial
   | sh d=>
    obtain⟨v,q1,q2⟩:=k2
    exact⟨v,q1,q2.mono t.sg⟩
   | _=>cases hs
 ·rcases h3 with rfl | h3
  ·exact h2
  ·exact .inr (none0 _ h3)
 ·show StB true _ _ _ _ _
  unfold StB
  rw [if_pos rfl]
  have z:=S.toR
  refine⟨z.sg.trans t.sg,t.gh,fun c u hc e=>t.sh c u (fun m=> ?_) (z.sh c u hc e),fun c g1 g2=> ?_,fun c hc=>t.th c (S.fr c hc)⟩
  ·simp only [av,List.not_mem_nil,or_false,not_or] at m hc
   rcases m with m | m | m | m | m
   ·exact hc.1 m
   ·exact hc.2.1 m
   ·exact hc.2.2.1 m
   ·exact hc.2.2.2.1 m
   ·rcases h2 with h2 | h2
    ·exact hc.2.2.2.2 (m.trans h2)
    ·rw [m,h2] at e;cases e
  ·cases q:G c with
   | none=>exact none0 c (t.nw c q g2)
   | some o=>exact z.nw c g1 (by rw [q];exact fun y=>nomatch y)
 ·rw [bd (by omega)] at e
  exact S.on j sl e
theorem xT (S:SM X ad A G₀ p dx d l1 l20 b G H ρ σ) (h2:l2=l20\/X.H₀ l2=none) {R':RM} (hr:OKm X ad A G₀ p dx d l1 l20 (match R' with | .pure x=>vS b x fun _=> .nx ρ b | .chg _ r'=> .nx (ρ.set 0 (.rk A r')) true) D' E):
  RMK X.K ad A G H p dx d l1 l2 R' (fun _ H1=>D'.nx σ H1) E:=by
 cases R' with
 | pure x=>
  have hr':OKm X ad A G₀ p dx d l1 l20 (vS b x fun _=> .nx ρ b) D' E:=hr
  cases x with
  | ok y=>exact fun v G1 H1 t _=>hr' σ G1 H1 (S.step t)
  | ow xs=>exact fun q vs G1 H1 t _ _ _ _=>hr' σ G1 H1 (S.step t)
  | ex c=>
   obtain⟨hb,hr2⟩:=hr'
   have z:=S.st
   unfold StB at z
   rw [hb,if_neg bg] at z
   exact fun G1 H1 t=>hr2 G1 H1 (z.trans t)
  | bad=>exact hr'.elim
 | chg x r'=>exact fun v G' H' l2' t hR h3 _=>hr σ G' H' (S.call h2 t hR h3)
theorem aDc (hx: ∀ σ,XP X ad σ E) (RC:RkC X.K A) (M0:MetOk X ad A m n M) (hN:X.N[0]? =some x) (hv:Vis X.env.scope x) (hd:(x==("__debug__":Str))=false) (hcd:(x==("__classdict__":Str))=false) (ha:MA X ad (e::es) fs) (hn:fs.length=n)
  (hst:starEach (e::es) X.env=(false,eval e X.env)::starEach es X.env) (hpl:(backTo cp (starEach es X.env)).any (·.1)=false) (hfm:methodCallForm ((e::es).length+([]:List Keyword).length) (backTo cp (starEach (e::es) X.env)) (backToKw cp (keywordEach [] X.env))=true) (hln:(ap.endLine==cp.line)=true):
  MM X ad A E (.Expr (.Call (.Attribute (.Name x np) m ap) (e::es) [] cp) pos) (j7 A M fs):=by
 intro pins s σ H D' I ⟨G₀,p,dx,d,l1,l20,G,ρ,b,S,hr⟩
 obtain⟨r,e0,hr⟩:=jC hr
 obtain⟨r1,l2,f1,hR,h2⟩:=S.rk
 rw [e0] at f1
 cases f1
 have main:wpAny (model X.prog X.w) X.A (eval (.Call (.Attribute (.Name x np) m ap) (e::es) [] cp) X.env) (EP X pins σ fun _ H1=>D'.nx σ H1) X.xe s:=by
  obtain⟨fm,k,fd,ps,hm,_⟩:=M0.ok
  refine PySem.W.methodCall_KW (L2.thn (aV hN hv hd hcd pins s σ H (fun v H1=>v= .ref p/\H1=H) I ⟨.ref p,S.me,rfl,rfl⟩) fun u s1 hz_=> ?_) (fA rfl hfm hln)
  obtain⟨v,H1,I1,r1,e1,e2⟩:=hz_
  subst e1;subst e2
  cases (show u=Value.ref p from r1)
  refine dX I1 hR.ins RC.cl hm (pE M0.no) ?_
  refine PySem.W.callWith_K (first:=[.ref p]) (h₀:=X.base) I1.ok.mod.kin hm.kp (L2.thn (ha cp pins s1 σ H1 (fun vs H2=> ∃ ds G1,Step G H1 G1 H2/\aE X.K ad G1 ds vs/\ds.length=fs.length/\RMK X.K ad A G1 H2 p dx d l1 l2 (M r ds) (fun _ H3=>D'.nx σ H3) E) I1
   (aDb S (hx σ) hr fun vs ds G1 H2 S1 rq hl k st=>⟨ds,G1,st,rq,hl,xT S1 h2 k⟩)) fun us s2 ⟨vs,H2,I2,r2,ds,G1,st,rq,hl,k⟩=>⟨I2.kIn, ?_⟩) hst hpl
  exact iF M0 I2 st.gh (hR.step st) r2 rq (hl.trans hn) (hx σ) k hm
 exact wpAny_Expr_any (L2.thn main fun v s1 ⟨y,H1,I1,r1,q1⟩=>⟨σ,H1,I1,q1⟩) I.quiet rfl
end
structure CA where
 o:Expr
 m:Str
 ap:Pos
 as:List Expr
 cp:Pos
noncomputable def pI:Expr->Option CA
 | .Call f as kws cp=>if kws.isEmpty then(wI f).bind fun(o,m,ap)=>if(ap.endLine==cp.line)=true then some ⟨o,m,ap,as,cp⟩ else none else none
 | _=>none
theorem xU {e o:Expr} {f:Str} {q:Pos} (h:wI e=some (o,f,q)):e= .Attribute o f q:=by
 cases e<;>first | (cases h;rfl) | (cases h;done)
theorem iJ {e:Expr} {c:CA} (h:pI e=some c):e= .Call (.Attribute c.o c.m c.ap) c.as [] c.cp/\(c.ap.endLine==c.cp.line)=true:=by
 cases e<;>try (cases h;done)
 rename_i f as kws cp
 have h':(if kws.isEmpty then(wI f).bind fun(o,m,ap)=>if(ap.endLine==cp.line)=true then some (⟨o,m,ap,as,cp⟩:CA) else none else none)=some c:=h
 by_cases hk:kws.isEmpty=true
 ·rw [if_pos hk] at h'
  obtain⟨⟨o,m,ap⟩,h1,h2⟩:=zBd h'
  have h3:(if(ap.endLine==cp.line)=true then some (⟨o,m,ap,as,cp⟩:CA) else none)=some c:=h2
  by_cases hl:(ap.endLine==cp.line)=true
  ·rw [if_pos hl] at h3
   cases h3
   cases xU h1
   cases List.isEmpty_iff.mp hk
   exact⟨rfl,hl⟩
  ·rw [if_neg hl] at h3;cases h3
 ·rw [if_neg hk] at h';cases h'
noncomputable def aHt:Option Nat->Option Nat
 | some (i+1)=>some i
 | _=>none
theorem xV {o:Option Nat} {i:Nat} (h:aHt o=some i):o=some (i+1):=by
 cases o with
 | none=>cases h
 | some j=>cases j with
  | zero=>cases h
  | succ j=>cases h;rfl
noncomputable def zY:Expr->Bool
 | .List es _=>es.isEmpty
 | _=>false
theorem uT {e:Expr} (h:zY e=true): ∃ p,e= .List [] p:=by
 cases e<;>try (cases h;done)
 rename_i es p
 cases List.isEmpty_iff.mp (show es.isEmpty=true from h)
 exact⟨p,rfl⟩
noncomputable def aMd (C:SK.Ctx) (e:Expr):Option Bool:=(pI e).bind fun c=>if c.m="pop"/\c.as.isEmpty=true then(aEk C c.o).bind fun(i,bb)=>if i=0 then some bb else none else none
theorem aDd {C:SK.Ctx} {e:Expr} {bb:Bool} (h:aMd C e=some bb): ∃ x np qp ap cp,e= .Call (.Attribute (.Attribute (.Name x np) (if bb then "done" else "undone") qp) "pop" ap) [] [] cp/\(ap.endLine==cp.line)=true/\loc C x=some 0:=by
 have hx:=zBd h
 clear h
 obtain⟨c,h1,h⟩:=hx
 obtain⟨rfl,hl⟩:=iJ h1
 clear h1
 obtain⟨o,m,ap,as,cp⟩:=c
 simp only at h hl ⊢
 split at h
 ·rename_i hc
  obtain⟨rfl,he⟩:=hc
  cases List.isEmpty_iff.mp he
  obtain⟨⟨i,b2⟩,h2,h3⟩:=zBd h
  have h4:(if i=0 then some b2 else none)=some bb:=h3
  by_cases hi:i=0
  ·rw [if_pos hi] at h4
   cases h4
   subst hi
   obtain⟨x,p,q,rfl,e1⟩:=j5 h2
   exact⟨x,p,q,ap,cp,rfl,hl,e1⟩
  ·rw [if_neg hi] at h4;cases h4
 ·cases h
noncomputable def aKz (A:Nat) (C:SK.Ctx) (t e:Expr):Option FSM:=match t with
 | .Name x _=>(aHt (loc C x)).bind fun i=>(match aMd C e with
  | some bb=>some (xR A i bb)
  | none=>(aT 50 C e).map fun f=>aEo i f)
 | .Attribute o f q=>if atF C "undone" (.Attribute o f q)=some 0/\zY e=true then some (uR A) else none
 | .Subscript o k _=>if atF C "held" o=some 0 then(aT 50 C k).bind fun f=>(bP e).bind fun(y,py)=>(aT 50 C (.Name y py)).map fun g=>aC5 A f g else none
 | _=>none
noncomputable def aK0 (A:Nat) (ms:List (Str×Nat×FM)) (C:SK.Ctx) (e:Expr):Option FSM:=match pI e with
 | some c=>(match bP c.o with
  | some (x,_)=>if loc C x=some 0 then(ms.lookup c.m).bind fun(n,M)=>if c.as.length<20/\c.as.isEmpty=false then(cV (aT 50 C) c.as).bind fun fs=>if fs.length=n then some (j7 A M fs) else none else none else none
  | none=>(match aEk C c.o with
   | some (i,bb)=>if i=0/\c.m="append" then(one c.as).bind fun a=>(aT 50 C a).map fun f=>aHp A bb f else none
   | none=>if atF C "held" c.o=some 0/\c.m="pop" then(one c.as).bind fun a=>(aT 50 C a).map fun f=>aC6 A f else none))
 | none=>(match e with
  | .Call f as kws cp=>if kws.isEmpty then(aT 50 C (.Call f as [] cp)).map qP else none
  | _=>none)
noncomputable def aDe (C:SK.Ctx) (x:Option Expr):Option FSM:=x.bind fun e=>(match e with
 | .Call f as kws _=>if kws.isEmpty then(bP f).bind fun(x,_)=>(one as).bind fun a=>if aBb a then(match loc C x,glo C x with
  | none,some (.exc c)=>some (l7 c)
  | _,_=>none) else none else none
 | _=>none)
noncomputable def isN {α:Type}:Option α->Bool
 | none=>true
 | some _=>false
mutual
noncomputable def mS:Nat->Nat->List (Str×Nat×FM)->SK.Ctx->Stmt->Option FSM
 | 0,_,_,_,_=>none
 | n+1,A,ms,C,st=>match st with
  | .Pass _=>some cM
  | .If c a b _=>(aT 50 C c).bind fun f=>(mSs n A ms C a).bind fun g=>(mSs n A ms C b).map fun h=>mIf f g h
  | .Return e _=>e.bind fun e=>(aT 50 C e).map qQ
  | .Raise x c _=>if isN c then aDe C x else none
  | .Assign ts e _=>(one ts).bind fun t=>aKz A C t e
  | .Expr e _=>aK0 A ms C e
  | _=>none
noncomputable def mSs:Nat->Nat->List (Str×Nat×FM)->SK.Ctx->List Stmt->Option FSM
 | 0,_,_,_,_=>none
 | n+1,A,ms,C,l=>match l with
  | []=>some cM
  | st::r=>(mS n A ms C st).bind fun g=>(mSs n A ms C r).map fun h=>cZ g h
end
section
variable {X:Cx} {ad:Ad} {A:Nat} {C:SK.Ctx} {E:Nat->Hp->Prop} {E₀:XK} {ms:List (Str×Nat×FM)} {e t:Expr} {g:FSM} {pos:Pos}
structure MeOk (X:Cx) (ad:Ad) (A:Nat) (ms:List (Str×Nat×FM)) (C:SK.Ctx) (E:Nat->Hp->Prop) (E₀:XK):Prop where
 O:StOk X ad C
 T:DefX X E₀
 hx: ∀ σ,XP X ad σ E
 hE: ∀ c H,E c H->E₀ (.ref (ad.cls c)) none H
 RC:RkC X.K A
 MO: ∀ m n M,ms.lookup m=some (n,M)->MetOk X ad A m n M
theorem aDf (L:MeOk X ad A ms C E E₀) (h:aKz A C t e=some g):MM X ad A E (.Assign [t] e pos) g:=by
 obtain⟨kE,kL,kI⟩:=bV (ad:=ad) 50
 unfold aKz at h
 split at h
 ·rename_i y py
  have hx:=zBd h
  clear h
  obtain⟨i,h1,h⟩:=hx
  have h1':=xV h1
  have nm:=L.O.nm h1'
  split at h
  ·rename_i bb hp
   cases h
   obtain⟨x,np,qp,ap,cp,rfl,hl,e1⟩:=aDd hp
   obtain⟨v1,v2,v3,v4⟩:=L.O.cx.vis x 0 e1
   exact aC7 bb L.RC v1 v2 v3 v4 hl L.O.cx.nd nm.1 nm.2.1 nm.2.2
  ·obtain⟨f,h2,rfl⟩:=zMd h
   refine PS.imp (uO L.O h2 h1') ?_
   rintro D' σ H ⟨G₀,p,dx,d,l1,l20,G,ρ,b,S,hr⟩
   exact jB S (L.hx σ) hr fun v x G1 H1 S1 r k _=>k _ G1 H1 (S1.set r)
 ·rename_i o f q
  split at h
  ·rename_i hc
   cases h
   obtain⟨x,np,qp,e1,e2⟩:=fB hc.1
   cases e1
   obtain⟨lp,rfl⟩:=uT hc.2
   obtain⟨v1,v2,v3,v4⟩:=L.O.cx.vis x 0 e2
   exact xS L.RC v1 v2 v3 v4
  ·cases h
 ·rename_i o k kp
  split at h
  ·rename_i hc
   obtain⟨x,np,qp,rfl,e2⟩:=fB hc
   obtain⟨v1,v2,v3,v4⟩:=L.O.cx.vis x 0 e2
   have hx:=zBd h
   clear h
   obtain⟨f,h1,h⟩:=hx
   have hx:=zBd h
   clear h
   obtain⟨⟨y,py⟩,h2,h⟩:=hx
   cases aQ h2
   obtain⟨g',h3,rfl⟩:=zMd h
   exact aC9 L.O.cx.un L.hx L.RC v1 v2 v3 v4 (kE X C _ f L.O.cx h1).1 (kE X C _ g' L.O.cx h3).1 rfl
  ·cases h
 ·cases h
theorem aDg (L:MeOk X ad A ms C E E₀) (h:aK0 A ms C e=some g):MM X ad A E (.Expr e pos) g:=by
 obtain⟨kE,kL,kI⟩:=bV (ad:=ad) 50
 unfold aK0 at h
 split at h
 ·rename_i c hc
  obtain⟨rfl,hl⟩:=iJ hc
  obtain⟨o,m,ap,as,cp⟩:=c
  simp only at h hl ⊢
  split at h
  ·rename_i x np hv
   cases aQ hv
   split at h
   ·rename_i e1
    obtain⟨v1,v2,v3,v4⟩:=L.O.cx.vis x 0 e1
    have hx:=zBd h
    clear h
    obtain⟨⟨n0,M⟩,h2,h⟩:=hx
    simp only at h
    split at h
    ·rename_i hlen
     have hx:=zBd h
     clear h
     obtain⟨fs,h3,h⟩:=hx
     split at h
     ·rename_i hn
      cases h
      obtain⟨ma,ns⟩:=j4 kE L.O.cx h3
      cases as with
      | nil=>exact absurd hlen.2 (by simp)
      | cons a r=>exact aDc L.hx L.RC (L.MO m n0 M h2) v1 v2 v3 v4 ma hn (aJ (ns a (.head _))) (j6 fun e he=>ns e (.tail _ he)) (nS ns hlen.1) hl
     ·cases h
    ·cases h
   ·cases h
  ·split at h
   ·rename_i i bb hf
    split at h
    ·rename_i hc2
     obtain⟨rfl,rfl⟩:=hc2
     have hx:=zBd h
     clear h
     obtain⟨a,h1,h⟩:=hx
     cases bR h1
     obtain⟨f,h2,rfl⟩:=zMd h
     obtain⟨x,np,qp,rfl,e1⟩:=j5 hf
     obtain⟨v1,v2,v3,v4⟩:=L.O.cx.vis x 0 e1
     exact aHq bb L.hx L.RC v1 v2 v3 v4 (kE X C _ f L.O.cx h2).1 (aJ (aI h2).1) hl
    ·cases h
   ·split at h
    ·rename_i hc2
     obtain⟨hf,rfl⟩:=hc2
     have hx:=zBd h
     clear h
     obtain⟨a,h1,h⟩:=hx
     cases bR h1
     obtain⟨f,h2,rfl⟩:=zMd h
     obtain⟨x,np,qp,rfl,e1⟩:=fB hf
     obtain⟨v1,v2,v3,v4⟩:=L.O.cx.vis x 0 e1
     refine aDa L.hx L.RC v1 v2 v3 v4 (kE X C _ f L.O.cx h2).1 ⟨rfl, ?_,hl, ?_⟩
     ·rw [aJ (aI h2).1];rfl
     ·rw [aJ (aI h2).1];rfl
    ·cases h
 ·split at h
  ·rename_i f as kws cp
   split at h
   ·rename_i hk
    cases List.isEmpty_iff.mp hk
    obtain⟨f',h1,rfl⟩:=zMd h
    exact aC4 L.hx (kE X C _ f' L.O.cx h1).1 rfl
   ·cases h
  ·cases h
theorem xW (L:MeOk X ad A ms C E E₀) {x:Option Expr} (h:aDe C x=some g):MM X ad A E (.Raise x none pos) g:=by
 unfold aDe at h
 have hx:=zBd h
 clear h
 obtain⟨e,rfl,h⟩:=hx
 split at h
 ·rename_i f' as kws cp
  split at h
  ·rename_i hkw
   cases dF hkw
   have hx:=zBd h
   clear h
   obtain⟨⟨x,p⟩,hv,h⟩:=hx
   cases aQ hv
   have hx:=zBd h
   clear h
   obtain⟨a,ho,h⟩:=hx
   cases bR ho
   split at h
   ·rename_i hstr
    obtain⟨sx,k1,k2,rfl⟩:=pF hstr
    split at h
    ·rename_i c e1 e2
     cases h
     obtain⟨g1,g2,g3,g4⟩:=L.O.cx.gl e2
     exact xP L.T L.O.cx.calm g1 g3 g2 (L.O.exi c) L.hE
    ·cases h
   ·cases h
  ·cases h
 ·cases h
theorem zZ (L:MeOk X ad A ms C E E₀): ∀ n:Nat,(∀ st g,mS n A ms C st=some g->MM X ad A E st g)/\ ∀ l g,mSs n A ms C l=some g->MMs X ad A E l g
 | 0=>⟨(fun _ _ h=>by cases h),(fun _ _ h=>by cases h)⟩
 | n+1=>by
  obtain⟨hS,hSs⟩:=zZ L n
  obtain⟨kE,kL,kI⟩:=bV (ad:=ad) 50
  refine⟨fun st g h=> ?_,fun l g h=> ?_⟩
  ·unfold mS at h
   split at h
   ·cases h;exact aC2
   ·obtain⟨f,h1,h⟩:=zBd h
    obtain⟨ga,h2,h⟩:=zBd h
    obtain⟨gb,h3,rfl⟩:=zMd h
    exact aKy L.hx (kE X C _ f L.O.cx h1).2.1 (hSs _ ga h2) (hSs _ gb h3)
   ·have hx:=zBd h
    clear h
    obtain⟨e,rfl,h⟩:=hx
    obtain⟨f,h1,rfl⟩:=zMd h
    exact aHo L.hx (kE X C _ f L.O.cx h1).1
   ·rename_i x c pos
    split at h
    ·rename_i hc
     cases c with
     | some _=>cases hc
     | none=>exact xW L h
    ·cases h
   ·have hx:=zBd h
    clear h
    obtain⟨t,h1,h⟩:=hx
    cases bR h1
    exact aDf L h
   ·exact aDg L h
   ·cases h
  ·unfold mSs at h
   split at h
   ·cases h;exact aC3
   ·obtain⟨ga,h1,h⟩:=zBd h
    obtain⟨gb,h2,rfl⟩:=zMd h
    exact xO (hS _ ga h1) (hSs _ gb h2)
end
noncomputable def xX (A:Nat) (ρ:Rho) (x:D):RM:=match(ρ[0]? :Option Slot) with
 | some (.rk C r)=>if C=A then .chg x r else .pure .bad
 | _=> .pure .bad
noncomputable def aHu (A:Nat):OutM->RM
 | .rt (.ok x) ρ b=>if b then xX A ρ x else .pure (.ok x)
 | .rt (.ow xs) _ b=>if b then .pure .bad else .pure (.ow xs)
 | .rt _ _ _=> .pure .bad
 | .nx ρ b=>if b then xX A ρ .non else .pure (.ok .non)
 | .ex c b=>if b then .pure .bad else .pure (.ex c)
 | .bad=> .pure .bad
noncomputable def nT (A N:Nat) (g:FSM):FM:=fun r ds=>aHu A (g (.rk A r::(ds.map Slot.sh++ao (N - (ds.length+1)) .no)) false)
noncomputable def aHv (tab:List (Str×SK.Gl)) (A:Nat) (ms:List (Str×Nat×FM)) (st:Stmt):Option (Nat×FM):=match st with
 | .FunctionDef _ as b _ _ _ sc _ _ _=>(cR as).bind fun ps=>if bI (aB sc) ps sc then(mSs 100 A ms ⟨tab,[],sc,aB sc,[]⟩ b).map fun g=>(ps.length - 1,nT A (aB sc).length g) else none
 | _=>none
theorem SL.cons {K:Frag} {ad:Ad} {G H:Hp} {ρ:Rho} {σ:St} {s:Slot} {ov:Option V} (h:SL K ad G H ρ σ) (h0:SLi K ad G H s ov):SL K ad G H (s::ρ) (ov::σ):=
 ⟨by simp [h.len],fun i sl e=>by
  cases i with
  | zero=>cases e;exact⟨ov,rfl,h0⟩
  | succ i=>exact h.at_ i sl e⟩
section
variable {P:Program} {w:World} {K:Frag} {mg:Str->Option Value} {base:Heap} {ad:Ad} {k:Nat} {tab:List (Str×SK.Gl)}
theorem aHw {x qual:Str} {st:Stmt} {f:Addr} {fd:FuncData} {A n:Nat} {ms:List (Str×Nat×FM)} {M:FM} {self:Str} {ps:List Str} (B:ExcK K ad) (TB:cT P w K mg base ad k tab) (RC:RkC K A)
  (MO: ∀ m n M,ms.lookup m=some (n,M)->(m≠"held"/\m≠"done"/\m≠"undone")/\ ∃ f r fd ps,r<=k/\Meth K A m f/\FnOk P w K mg base (CXe P w) r f fd ps (spM K ad A n M)/\dB K fd ps [])
  (Fu:Fun K x qual st f fd) (hps:cR (defArgs st)=some (self::ps)) (hd:aHv tab A ms st=some (n,M)):FnOk P w K mg base (CXe P w) (k+1) f fd (self::ps) (spM K ad A n M):=by
 obtain⟨oc,od,kV,doc,pm,an,cdv,ct,osl,rfl,lk,hcd⟩:=Fu.ex
 cases st with
 | FunctionDef nm as b dl re tp sc ts bi pos=>
  have hd':((cR as).bind fun ps=>if bI (aB sc) ps sc then(mSs 100 A ms ⟨tab,[],sc,aB sc,[]⟩ b).map fun g=>(ps.length - 1,nT A (aB sc).length g) else none)=some (n,M):=hd
  have hps':cR as=some (self::ps):=hps
  rw [hps'] at hd'
  have hd2:(if bI (aB sc) (self::ps) sc then(mSs 100 A ms ⟨tab,[],sc,aB sc,[]⟩ b).map fun g=>((self::ps).length - 1,nT A (aB sc).length g) else none)=some (n,M):=hd'
  by_cases hs:bI (aB sc) (self::ps) sc=true
  ·rw [if_pos hs] at hd2
   obtain⟨g,hg,e⟩:=zMd hd2
   cases e
   obtain⟨S,nm⟩:=bW hs
   refine aA0 lk hcd S (fun vs H Q E hz_=> ?_) fun A' outer s H vs Q E hr hz_=> ?_
   ·obtain⟨G,p,r,dx,d,l1,l2,ds,ws,rfl,_,_,rq,hl,_⟩:=hz_
    have:=rq.length
    simp at hl ⊢
    omega
   obtain⟨G,p,r,dx,d,l1,l2,ds,ws,rfl,hG,hR,rq,hl,hq⟩:=hz_
   let C:SK.Ctx:=⟨tab,[],sc,aB sc,[]⟩
   have vis: ∀ x i,loc C x=some i->(aB sc)[i]? =some x/\Loc sc x/\x∈aB sc:=fun x i e=>by
    obtain⟨e1,e2⟩:=fN e
    refine⟨dC e1, ?_,fM e1⟩
    rcases e2 with e2 | e2 | e2
    ·exact .inl e2
    ·exact .inr e2
    ·exact absurd rfl (S.nofree _ (bY e2))
   let X:=kU (CXe P w) P w K mg base (aB sc) qual sc f cdv A' outer s H E
   have O:StOk X ad C:=by
    refine⟨⟨rfl,S.nd,fun x i e=> ?_,fun x e=>e,fun x g e=> ?_,fun x i e=> ?_,rfl, ?_,hr.hd,B.exc,B.kin,B.kve,fun j m F' e=>by cases e⟩,fun _=>rfl,rfl,fun x i e=>(vis x i e).2.1,B.exm,B.exi⟩
    ·obtain⟨a,b,c⟩:=vis x i e
     exact⟨a,b.elim .inl fun z=> .inr (.inl z),(nm x c).1,(nm x c).2⟩
    ·obtain⟨a,b⟩:=TB x g e
     refine⟨a, ?_⟩
     cases g with
     | fn j m F'=>
      obtain⟨r',f',h1,h2,h3,h4,h5⟩:=b
      exact⟨r',f',⟨h2,h3,h4⟩,hr.mono h1,h5⟩
     | exc c=>exact b
     | verr=>exact b
     | val d=>exact b
     | py p=>exact b
     | cls A ms=>exact⟨b.1,b.2.1,fun m n M hm=>let ⟨no,f,r,fd,ps,h1,h2,h3,h4⟩:=b.2.2 m n M hm;⟨no,f,r,fd,ps,h2,h3,hr.mono h1,h4⟩⟩
    ·obtain⟨e1,e2⟩:=cD e
     rcases e2 with e2 | e2
     ·exact .inl e2
     ·exact absurd rfl (S.nofree _ (bY e2))
    ·exact Nat.lt_of_le_of_lt (Nat.add_le_add_left (by decide:62<=64) _) hr.units
   have T:DefX X E:=⟨rfl,rfl,rfl,fun e s' h=>h⟩
   have L:MeOk X ad A ms C (fun c H'=>E (.ref (ad.cls c)) none H') E:=⟨O,T,fun σ=>tD T,fun c H h=>h,RC,fun m n M hm=>let ⟨no,f,r,fd,ps,h1,h2,h3,h4⟩:=MO m n M hm;⟨no,f,r,fd,ps,h2,h3,hr.mono h1,h4⟩⟩
   refine⟨_,(zZ L 100).2 b g hg, ?_⟩
   have S0:=gG (X:=X) (ad:=ad) (n:=(aB sc).length - (ds.length+1)) hG rq
   have hst:L2.start (aB sc) (V.ref p::ws)=some (V.ref p)::(ws.map some++ao ((aB sc).length - (ds.length+1)) none):=by
    unfold L2.start
    rw [br,rq.length]
    rfl
   refine⟨G,p,dx,d,l1,l2,G, .rk A r::(ds.map Slot.sh++ao ((aB sc).length - (ds.length+1)) .no),false, ?_, ?_⟩
   ·rw [hst]
    refine⟨S0.sl.cons ⟨p,dx,d,l1,l2,rfl,hR⟩,hG,rfl,⟨r,l2,rfl,hR, .inl rfl⟩, ?_,fun c hc=>hc,fun j sl e=> ?_⟩
    ·unfold StB
     rw [if_neg bg]
     exact Step.refl hG
    ·have e':(ds.map Slot.sh++ao ((aB sc).length - (ds.length+1)) Slot.no)[j]? =some sl:=e
     have m:=List.mem_of_getElem? e'
     rcases List.mem_append.mp m with m | m
     ·obtain⟨d',_,rfl⟩:=au.mp m;rfl
     ·rw [(List.mem_replicate.mp m).2];rfl
   ·have hq':RMK K ad A G H p dx d l1 l2 (aHu A (g (.rk A r::(ds.map Slot.sh++ao ((aB sc).length - (ds.length+1)) .no)) false)) Q (fun c H'=>E (.ref (ad.cls c)) none H'):=hq
    have fin: ∀ (ρ:Rho) (b:Bool) (y:D),RMK K ad A G H p dx d l1 l2 (if b then xX A ρ y else .pure (.ok y)) Q (fun c H'=>E (.ref (ad.cls c)) none H')-> ∀ σ G' H' v,SM X ad A G p dx d l1 l2 b G' H' ρ σ->Rep K ad G' y v->Q v H':=fun ρ b y hq σ G' H' v S' rv=>by
     cases b
     ·rw [if_neg bg] at hq
      have z:=S'.st
      unfold StB at z
      rw [if_neg bg] at z
      exact hq v G' H' z rv
     ·rw [if_pos rfl] at hq
      obtain⟨r1,l2',f1,f2,f3⟩:=S'.rk
      unfold xX at hq
      rw [f1] at hq
      have hq2:RMK K ad A G H p dx d l1 l2 (if A=A then .chg y r1 else .pure .bad) Q (fun c H'=>E (.ref (ad.cls c)) none H'):=hq
      rw [if_pos rfl] at hq2
      exact hq2 v G' H' l2' S'.toR f2 f3 rv
    cases e:g (.rk A r::(ds.map Slot.sh++ao ((aB sc).length - (ds.length+1)) .no)) false with
    | nx ρ b=>rw [e] at hq';exact fun σ G' H' S'=>fin ρ b .non hq' σ G' H' .non S' (by unfold Rep;rfl)
    | rt y ρ b=>
     rw [e] at hq'
     cases y with
     | ok y=>exact fun σ G' H' v S' rv=>fin ρ b y hq' σ G' H' v S' rv
     | ow xs=>
      cases b
      ·exact⟨rfl,hq'⟩
      ·exact hq'.elim
     | ex c=>exact hq'.elim
     | bad=>exact hq'.elim
    | ex c b=>
     rw [e] at hq'
     cases b
     ·exact⟨rfl,hq'⟩
     ·exact hq'.elim
    | bad=>rw [e] at hq';exact hq'.elim
  ·rw [if_neg hs] at hd2
   cases hd2
 | _=>cases hd
end
noncomputable def pJ (ρ:Rho) (A i:Nat) (M:FM) (fs:List F) (k:D->Rho->Out):Out:=match(ρ[i]? :Option Slot) with
 | some (.rk C r)=>if C=A then(match args fs ρ with
  | .ok ds=>(match M r ds with
   | .pure x=>fE ρ x fun d=>k d ρ
   | .chg x r'=>k x (ρ.set i (.rk A r')))
  | .ex c=> .ex c ρ
  | .bad=> .rt .bad) else .rt .bad
 | _=> .rt .bad
noncomputable def vT (A i:Nat) (M:FM) (fs:List F):FS:=fun ρ=>pJ ρ A i M fs fun _ ρ'=> .nx ρ'
section
variable {X:Cx} {ad:Ad} {Z:(St->Nat->Hp->Prop)->Prop} {pins:List (Addr×Obj)} {s:Shared} {σ:St} {G₀ G H G1 H1:Hp} {ρ:Rho} {D':Ends} {E:St->Nat->Hp->Prop} {A i n:Nat} {M:FM} {fs:List F} {x m:Str} {es:List Expr} {pos p np ap cp:Pos} {r r':Rk} {p0 dx d l1 l2 l2':Addr}
theorem RackIn.stepR {K:Frag} {foot:List Addr} {C q:Addr} {r:Rk} {qx qd q1 q2:Addr} (h:RackIn K ad C G H q r qx qd q1 q2) (t:StepR foot G H G1 H1) (dis: ∀ a∈[q,qx,qd,q1,q2],a∉foot):RackIn K ad C G1 H1 q r qx qd q1 q2:=by
 obtain⟨kvs,a1,a2⟩:=h.held
 obtain⟨v1,b1,b2⟩:=h.done
 obtain⟨v2,c1,c2⟩:=h.undone
 have gn: ∀ {b:Addr} {o:HO},G b=none->H b=some o->G1 b=none:=fun {b o} g hb=>by
  cases z:G1 b with
  | none=>rfl
  | some u=>
   have:=t.nw b g (by rw [z];exact fun y=>nomatch y)
   rw [hb] at this
   cases this
 exact⟨t.sh _ _ (dis _ (by simp)) h.ins,t.sh _ _ (dis _ (by simp)) h.own,⟨kvs,t.sh _ _ (dis _ (by simp)) a1,a2.mono t.sg⟩,⟨v1,t.sh _ _ (dis _ (by simp)) b1,b2.mono t.sg⟩,⟨v2,t.sh _ _ (dis _ (by simp)) c1,c2.mono t.sg⟩,h.ne,
  gn h.gp h.ins,gn h.gx h.own,gn h.gd a1,gn h.g1 b1,gn h.g2 c1⟩
theorem SS.updR (S:SS X ad G₀ G H ρ σ) (e:ρ[i]? =some (.rk A r)) (h1:σ[i]? =some (some (.ref p0))) (hR:RackIn X.K ad A G H p0 r dx d l1 l2) (t:StepR [p0,dx,d,l1,l2] G H G1 H1) (hR':RackIn X.K ad A G1 H1 p0 r' dx d l1 l2') (h3:l2'=l2\/H l2'=none):
  SS X ad G₀ G1 H1 (ρ.set i (.rk A r')) σ:=by
 have hl:i<ρ.length:=(ay.mp e).1
 have ft:dZ H ρ σ i [p0,dx,d,l1,l2]:=⟨A,r,p0,dx,d,l1,l2,e,h1,hR.ins,rfl⟩
 have f0:=S.rs.h0 i _ ft
 have fow:=S.rs.ow i _ ft
 have fat:=ft.at S.sl
 have none0: ∀ c,H c=none->X.H₀ c=none:=fun c hc=>S.st.sh.free hc
 have key: ∀ (j:Nat) (sl:Slot),(ρ.set i (.rk A r'))[j]? =some sl->(j=i/\sl= .rk A r')\/(j≠i/\ρ[j]? =some sl):=fun j sl e=>by
  by_cases z:j=i
  ·subst z
   rw [bn hl] at e
   cases e
   exact .inl ⟨rfl,rfl⟩
  ·rw [bd (Ne.symm z)] at e
   exact .inr ⟨z,e⟩
 have gn: ∀ {b:Addr} {o:HO},G b=none->H b=some o->G1 b=none:=fun {b o} g hb=>by
  cases z:G1 b with
  | none=>rfl
  | some u=>
   have:=t.nw b g (by rw [z];exact fun y=>nomatch y)
   rw [hb] at this
   cases this
 -- another rack's pieces are none of these
 have dis: ∀ {j:Nat} {as:List Addr},j≠i->dZ H ρ σ j as-> ∀ a∈as,a∉[p0,dx,d,l1,l2]:=fun {j as} nj f a ha hm=>nj (S.rs.rr j i as _ a f ft ha hm)
 -- the pieces of a rack, as they were
 have bk: ∀ {j:Nat} {as:List Addr},j≠i->dZ H1 (ρ.set i (.rk A r')) σ j as->dZ H ρ σ j as:=fun {j as} nj f=>by
  obtain⟨C,r2,q,qx,qd,q1,q2,f1,f2,f3,f4⟩:=f
  rw [bd (Ne.symm nj)] at f1
  obtain⟨q',qx',qd',q1',q2',g1,g2⟩:=S.sl.rk f1
  rw [f2] at g1
  cases g1
  have fo:dZ H ρ σ j [q,qx',qd',q1',q2']:=⟨C,r2,q,qx',qd',q1',q2',f1,f2,g2.ins,rfl⟩
  have:=t.sh _ _ (dis nj fo q (by simp)) g2.ins
  rw [f3] at this
  cases this
  exact⟨C,r2,q,qx,qd,q1,q2,f1,f2,g2.ins,f4⟩
 have bi: ∀ {as:List Addr},dZ H1 (ρ.set i (.rk A r')) σ i as->as=[p0,dx,d,l1,l2']:=fun {as} f=>by
  obtain⟨C,r2,q,qx,qd,q1,q2,f1,f2,f3,f4⟩:=f
  rw [h1] at f2
  cases f2
  rw [bn hl] at f1
  cases f1
  rw [hR'.ins] at f3
  cases f3
  exact f4
 have newm: ∀ a∈[p0,dx,d,l1,l2'],a∈[p0,dx,d,l1,l2]\/H a=none:=fun a ha=>by
  simp only [av,List.not_mem_nil,or_false] at ha ⊢
  rcases ha with z | z | z | z | z
  ·exact .inl (.inl z)
  ·exact .inl (.inr (.inl z))
  ·exact .inl (.inr (.inr (.inl z)))
  ·exact .inl (.inr (.inr (.inr (.inl z))))
  ·rcases h3 with y | y
   ·exact .inl (.inr (.inr (.inr (.inr (z.trans y)))))
   ·exact .inr (by rw [z];exact y)
 refine⟨⟨S.st.sg.trans t.sg,t.gh,fun b o hb=>t.sh b o (fun m=>by rw [f0 b m] at hb;cases hb) (S.st.sh b o hb),fun b g1 g2=> ?_⟩,⟨by rw [List.length_set];exact S.sl.len,fun j sl ej=> ?_⟩,fun j sl a ej w hj=> ?_,fun j j' sl sl' a ej ej' w w' hj hj'=> ?_,⟨fun j as f a ha=> ?_,fun j as f a ha k sl ek w hk=> ?_,fun j j' as as' a f f' ha ha'=> ?_⟩⟩
 ·cases q:G b with
  | none=>exact none0 b (t.nw b q g2)
  | some o=>exact S.st.nw b g1 (by rw [q];exact fun y=>nomatch y)
 ·rcases key j sl ej with ⟨rfl,rfl⟩ | ⟨nj,ej⟩
  ·exact⟨_,h1,p0,dx,d,l1,l2',rfl,hR'⟩
  ·obtain⟨ov,k1,k2⟩:=S.sl.at_ j sl ej
   refine⟨ov,k1, ?_⟩
   cases sl with
   | no=>trivial
   | sh y=>
    obtain⟨v,q1,q2⟩:=k2
    exact⟨v,q1,q2.mono t.sg⟩
   | ow xs=>
    obtain⟨a,vs,q1,q2,q3,q4⟩:=k2
    subst q1
    exact⟨a,vs,rfl,gn q2 q3,t.sh _ _ (fun m=>fow a m j _ ej rfl k1) q3,q4.mono t.sg⟩
   | dc kvs=>
    obtain⟨a,vs,q1,q2,q3,q4,q5⟩:=k2
    subst q1
    exact⟨a,vs,rfl,gn q2 q3,t.sh _ _ (fun m=>fow a m j _ ej rfl k1) q3,q4.mono t.sg,q5⟩
   | sd kvs=>
    obtain⟨a,vs,q1,q2,q3,q4,q5⟩:=k2
    exact⟨a,vs,q1,t.sg _ _ q2,t.sh _ _ (fun m=>by rw [(fat a m).1] at q2;cases q2) q3,q4.mono t.sg,q5⟩
   | rk C r2=>
    obtain⟨q,qx,qd,q1,q2,g1,g2⟩:=k2
    subst g1
    exact⟨q,qx,qd,q1,q2,rfl,g2.stepR t (dis nj ⟨C,r2,q,qx,qd,q1,q2,ej,k1,g2.ins,rfl⟩)⟩
 ·rcases key j sl ej with ⟨rfl,rfl⟩ | ⟨nj,ej⟩
  ·cases w
  ·exact S.ow j sl a ej w hj
 ·rcases key j sl ej with ⟨rfl,rfl⟩ | ⟨nj,ej⟩
  ·cases w
  ·rcases key j' sl' ej' with ⟨rfl,rfl⟩ | ⟨nj',ej'⟩
   ·cases w'
   ·exact S.dj j j' sl sl' a ej ej' w w' hj hj'
 ·by_cases nj:j=i
  ·subst nj
   rw [bi f] at ha
   rcases newm a ha with z | z
   ·exact f0 a z
   ·exact none0 a z
  ·exact S.rs.h0 j as (bk nj f) a ha
 ·rcases key k sl ek with ⟨rfl,rfl⟩ | ⟨nk,ek2⟩
  ·cases w
  ·by_cases nj:j=i
   ·subst nj
    rw [bi f] at ha
    rcases newm a ha with z | z
    ·exact fow a z k sl ek2 w hk
    ·exact(S.sl.own_at ek2 w hk).2 z
   ·exact S.rs.ow j as (bk nj f) a ha k sl ek2 w hk
 ·by_cases nj:j=i
  ·by_cases nj':j'=i
   ·rw [nj,nj']
   ·subst nj
    rw [bi f] at ha
    have fb:=bk nj' f'
    rcases newm a ha with z | z
    ·exact S.rs.rr j j' _ as' a ft fb z ha'
    ·exact absurd z (fb.at S.sl a ha').2
  ·by_cases nj':j'=i
   ·subst nj'
    rw [bi f'] at ha'
    have fb:=bk nj f
    rcases newm a ha' with z | z
    ·exact S.rs.rr j j' as _ a fb ft ha z
    ·exact absurd z (fb.at S.sl a ha).2
   ·exact S.rs.rr j j' as as' a (bk nj f) (bk nj' f') ha ha'
end
noncomputable def nU (X:Cx) (ad:Ad) (A i:Nat) (M:FM) (fs:List F):TE:=fun σ H Q=> ∃ G ρ E r p0 dx d l1 l2,Same G H/\SL X.K ad G H ρ σ/\XP X ad σ E/\σ[i]? =some (some (V.ref p0))/\RackIn X.K ad A G H p0 r dx d l1 l2/\
 tA X ad fs σ H (fun vs H1=> ∃ ds G1,Step G H G1 H1/\aE X.K ad G1 ds vs/\ds.length=fs.length/\RMK X.K ad A G1 H1 p0 dx d l1 l2 (M r ds) Q E)
section
variable {X:Cx} {ad:Ad} {Z:(St->Nat->Hp->Prop)->Prop} {pins:List (Addr×Obj)} {s:Shared} {σ:St} {G₀ G H G1 H1:Hp} {ρ:Rho} {D':Ends} {E:St->Nat->Hp->Prop} {A i n:Nat} {M:FM} {f g:F} {fs:List F} {x m:Str} {e:Expr} {es:List Expr} {pos p np ap cp:Pos} {r r':Rk} {p0 dx d l1 l2 l2':Addr}
theorem aHx (RC:RkC X.K A) (M0:MetOk X ad A m n M) (hN:X.N[i]? =some x) (hv:Vis X.env.scope x) (hd:(x==("__debug__":Str))=false) (hcd:(x==("__classdict__":Str))=false) (ha:MA X ad es fs) (hn:fs.length=n)
  (hst: ∀ a r,es=a::r->starEach (a::r) X.env=(false,eval a X.env)::starEach r X.env/\(backTo cp (starEach r X.env)).any (·.1)=false) (hl:es.length=fs.length) (hfm:methodCallForm (es.length+([]:List Keyword).length) (backTo cp (starEach es X.env)) (backToKw cp (keywordEach [] X.env))=true) (hln:(ap.endLine==cp.line)=true):
  PE X (.Call (.Attribute (.Name x np) m ap) es [] cp) (nU X ad A i M fs):=by
 intro pins s σ H Q I ⟨G,ρ,E,r,p0,dx,d,l1,l2,hG,hS,hx,h1,hR,hA⟩
 obtain⟨fm,k,fd,ps,hm,_⟩:=M0.ok
 refine PySem.W.methodCall_KW (L2.thn (aV hN hv hd hcd pins s σ H (fun v H1=>v= .ref p0/\H1=H) I ⟨.ref p0,h1,rfl,rfl⟩) fun u s1 hz_=> ?_) (fA rfl hfm hln)
 obtain⟨v,H1,I1,r1,e1,e2⟩:=hz_
 subst e1;subst e2
 cases (show u=Value.ref p0 from r1)
 refine dX I1 hR.ins RC.cl hm (pE M0.no) ?_
 cases es with
 | nil=>
  cases fs with
  | cons _ _=>cases hl
  | nil=>
   obtain⟨G2,ρ2,E2,hG2,_,_,hA⟩:=hA
   obtain⟨ds,G3,st,rq,hl2,k⟩:=(show AK X.K ad G2 H1 (.ok []) _ E2 from hA) [] G2 H1 (Step.refl hG2) aE.nil
   exact PySem.W.callWith_K0 (first:=[.ref p0]) I1.kIn hm.kp (iF M0 I1 st.gh (hR.step st) .nil rq (hl2.trans hn) hx k hm)
 | cons a dW=>
  refine PySem.W.callWith_K (first:=[.ref p0]) (h₀:=X.base) I1.ok.mod.kin hm.kp (L2.thn (ha cp pins s1 σ H1 _ I1 hA) fun us s2 ⟨vs,H2,I2,r2,ds,G1,st,rq,hl,k⟩=>⟨I2.kIn, ?_⟩) (hst a dW rfl).1 (hst a dW rfl).2
  exact iF M0 I2 st.gh (hR.step st) r2 rq (hl.trans hn) hx k hm
theorem z9 (S:SS X ad G₀ G H ρ σ) (hx:XA X ad Z E) {k:D->Rho->Out} {Q':VK} (hr:OKo X ad G₀ (pJ ρ A i M fs k) D' E)
  (q: ∀ v y G1 H1 ρ1,SS X ad G₀ G1 H1 ρ1 σ->Rep X.K ad G1 y v->OKo X ad G₀ (k y ρ1) D' E->Q' v H1):nU X ad A i M fs σ H Q':=by
 unfold pJ at hr
 cases e:(ρ[i]? :Option Slot) with
 | none=>rw [e] at hr;exact hr.elim
 | some sl=>
  rw [e] at hr
  cases sl with
  | rk C r=>
   have hr':OKo X ad G₀ (if C=A then(match args fs ρ with
    | .ok ds=>(match M r ds with
     | .pure x=>fE ρ x fun d=>k d ρ
     | .chg x r'=>k x (ρ.set i (.rk A r')))
    | .ex c=> .ex c ρ
    | .bad=> .rt .bad) else .rt .bad) D' E:=hr
   by_cases hc:C=A
   ·rw [if_pos hc] at hr'
    subst hc
    obtain⟨p0,dx,d,l1,l2,h1,hR⟩:=S.sl.rk e
    refine⟨G,ρ,E σ,r,p0,dx,d,l1,l2,S.st.gh,S.sl,hx.1 σ,h1,hR,G,ρ,E σ,S.st.gh,S.sl,hx.1 σ, ?_⟩
    cases ea:args fs ρ with
    | ok ds=>
     rw [ea] at hr'
     intro vs G1 H1 st rq
     refine⟨ds,G1,st,rq,eY ea, ?_⟩
     have S1:=S.step st
     have hR1:=hR.step st
     have hr2:OKo X ad G₀ (match M r ds with
      | .pure x=>fE ρ x fun d=>k d ρ
      | .chg x r'=>k x (ρ.set i (.rk C r'))) D' E:=hr'
     cases em:M r ds with
     | pure y=>
      rw [em] at hr2
      cases y with
      | ok y=>exact fun v G2 H2 st2 rv=>q v y G2 H2 ρ (S1.step st2) rv hr2
      | ow xs=>
       intro a ws G2 H2 st2 n2 m2 e2 rw2
       obtain⟨G3,st3,r3⟩:=bB (X:=X) (ad:=ad) st2 n2 m2 e2 rw2
       exact q _ _ G3 H2 ρ (S1.step st3) r3 hr2
      | ex c=>exact fun G2 H2 st2=>hr2 σ G2 H2 (S1.step st2)
      | bad=>exact hr2.elim
     | chg y r'=>
      rw [em] at hr2
      exact fun v G2 H2 l2' t hR2 h3 rv=>q v y G2 H2 _ (S1.updR e h1 hR1 t hR2 h3) rv hr2
    | ex c=>
     rw [ea] at hr'
     exact fun G1 H1 st=>hr' σ G1 H1 (S.step st)
    | bad=>
     rw [ea] at hr'
     exact hr'.elim
   ·rw [if_neg hc] at hr'
    exact hr'.elim
  | no=>exact hr.elim
  | sh _=>exact hr.elim
  | ow _=>exact hr.elim
  | dc _=>exact hr.elim
  | sd _=>exact hr.elim
theorem aHy (he:PE X e (nU X ad A i M fs)) (hs:swapsWith e none pos.line X.env=pure false):MS X ad Z (.Expr e pos) (vT A i M fs):=by
 refine PS.imp (dR he hs) ?_
 rintro D' σ H ⟨G₀,G,ρ,E,S,hx,hr⟩
 exact z9 S hx hr fun v y G1 H1 ρ1 S1 rv k=>k σ G1 H1 S1
end
noncomputable def rk0:Rk:=⟨[],[],[]⟩
noncomputable def spI (K:Frag) (ad:Ad) (A:Nat):Sp:=fun vs H Q _=> ∃ p dx G,vs=[V.ref p]/\Same G H/\G p=none/\G dx=none/\dx≠p/\H p=some (.ins A dx [])/\H dx=some (.own p)/\
 ∀ d l1 l2 H',H d=none->H l1=none->H l2=none->RackIn K ad A G H' p rk0 dx d l1 l2->(∀ b o,b≠p->H b=some o->H' b=some o)->Q .non H'
structure Ini (X:Cx) (A:Nat) (x:Str):Prop where
 RC:RkC X.K A
 hN:X.N[0]? =some x
 hv:Vis X.env.scope x
 hd:(x==("__debug__":Str))=false
 hcd:(x==("__classdict__":Str))=false
noncomputable def aMe (x:Str) (n1 q1 a1 n2 q2 a2 n3 q3 a3 e1 e2 e3:Pos):List Stmt:=
 [.Assign [.Attribute (.Name x n1) "held" q1] (.Dict [] [] e1) a1, .Assign [.Attribute (.Name x n2) "done" q2] (.List [] e2) a2, .Assign [.Attribute (.Name x n3) "undone" q3] (.List [] e3) a3]
section
variable {X:Cx} {ad:Ad} {A:Nat} {x:Str} {n1 q1 a1 n2 q2 a2 n3 q3 a3 e1 e2 e3:Pos}
theorem uU (L:Ini X A x) {p dx:Addr} {G H:Hp} {σ:St} {Q:VK} (me:σ[0]? =some (some (.ref p))) (hG:Same G H) (gp:G p=none) (gx:G dx=none) (ne:dx≠p) (hp:H p=some (.ins A dx [])) (hx:H dx=some (.own p))
  (q: ∀ d l1 l2 H',H d=none->H l1=none->H l2=none->RackIn X.K ad A G H' p rk0 dx d l1 l2->(∀ b o,b≠p->H b=some o->H' b=some o)->Q .non H'):
  ∃ t,PSs X (aMe x n1 q1 a1 n2 q2 a2 n3 q3 a3 e1 e2 e3) t/\t { nx:=fun _ H'=>Q .non H',rt:=Q } σ H:=by
 have nm: ∀ p':Pos,PE X (.Name x p') (aEx 0):=fun p'=>aV L.hN L.hv L.hd L.hcd
 refine⟨_,fW (n6 (nm n1) xG rfl) (fW (n6 (nm n2) (n9 cI) rfl) (jG (n6 (nm n3) (n9 cI) rfl))), ?_⟩
 intro d nd
 have dp:d≠p:=fun z=>by rw [z,hp] at nd;cases nd
 have dd:dx≠d:=fun z=>by rw [<-z,hx] at nd;cases nd
 have h1p:upd H d (.dK []) p=some (.ins A dx []):=by rw [aA (Ne.symm dp)];exact hp
 refine⟨.ref p,me,p,A,dx,_,rfl,h1p,L.RC.cl,L.RC.n1,by show 0<1000;decide, ?_⟩
 refine⟨bu _,fun l1 n1=> ?_⟩
 have lp:l1≠p:=fun z=>by rw [z,aC] at n1;cases n1
 have ld:l1≠d:=fun z=>by rw [aA lp,z,aC] at n1;cases n1
 have n1':H l1=none:=by rw [aA lp,aA ld] at n1;exact n1
 have xl:dx≠l1:=fun z=>by rw [<-z,hx] at n1';cases n1'
 refine⟨.ref p,me,p,A,dx,[(("held":Str),V.ref d)],rfl,by rw [aA (Ne.symm lp),aC];rfl,L.RC.cl,L.RC.n2,by show 1<1000;decide, ?_⟩
 refine⟨bu _,fun l2 n2=> ?_⟩
 have mp:l2≠p:=fun z=>by rw [z,aC] at n2;cases n2
 have ml:l2≠l1:=fun z=>by rw [aA mp,z,aC] at n2;cases n2
 have md:l2≠d:=fun z=>by rw [aA mp,aA ml,aA mp,z,aC] at n2;cases n2
 have n2':H l2=none:=by rw [aA mp,aA ml,aA mp,aA md] at n2;exact n2
 have xm:dx≠l2:=fun z=>by rw [<-z,hx] at n2';cases n2'
 refine⟨.ref p,me,p,A,dx,[(("held":Str),V.ref d),("done",V.ref l1)],rfl,by rw [aA (Ne.symm mp),aC];rfl,L.RC.cl,L.RC.n3,by show 2<1000;decide, ?_⟩
 refine q d l1 l2 _ nd n1' n2' ⟨by rw [aC];rfl, ?_,⟨[], ?_, .nil⟩,⟨[], ?_,aE.nil⟩,⟨[], ?_,aE.nil⟩,Ne.symm ml,gp,gx,hG.free nd,hG.free n1',hG.free n2'⟩ fun b o hb e=> ?_
 ·rw [aA ne,aA xm,aA ne,aA xl,aA ne,aA dd];exact hx
 ·rw [aA dp,aA (Ne.symm md),aA dp,aA (Ne.symm ld),aA dp,aC]
 ·rw [aA lp,aA (Ne.symm ml),aA lp,aC]
 ·rw [aA mp,aC]
 ·rw [aA hb,aA (aK e n2'),aA hb,aA (aK e n1'),aA hb,aA (aK e nd)];exact e
end
noncomputable def xY (i A:Nat):FS:=fun ρ=> .nx (ρ.set i (.rk A rk0))
section
variable {X:Cx} {ad:Ad} {Z:(St->Nat->Hp->Prop)->Prop} {σ:St} {G₀ G H H1:Hp} {ρ:Rho} {A i:Nat} {r:Rk} {p dx d l1 l2:Addr} {y x:Str} {pos yp np cp:Pos}
theorem SS.setR (S:SS X ad G₀ G H ρ σ) (s1:Same H H1) (hR:RackIn X.K ad A G H1 p r dx d l1 l2) (nw: ∀ a∈[p,dx,d,l1,l2],H a=none) (gh:Same G H1):SS X ad G₀ G H1 (ρ.set i (.rk A r)) (σ.set i (some (.ref p))):=by
 have st:Step G H G H1:=⟨Same.refl _,gh,s1,fun b h1 h2=>absurd h1 h2⟩
 have S1:=S.step st
 have key: ∀ (j:Nat) (sl:Slot),(ρ.set i (.rk A r))[j]? =some sl->(j=i/\sl= .rk A r/\i<ρ.length)\/(j≠i/\ρ[j]? =some sl):=fun j sl e=>by
  by_cases z:j=i
  ·subst z
   have hl:j<ρ.length:=by have:=(ay.mp e).1;rwa [List.length_set] at this
   rw [bn hl] at e
   cases e
   exact .inl ⟨rfl,rfl,hl⟩
  ·rw [bd (Ne.symm z)] at e
   exact .inr ⟨z,e⟩
 have sne: ∀ {j:Nat},j≠i->(σ.set i (some (V.ref p)))[j]? =σ[j]? :=fun {j} z=>bd (Ne.symm z)
 have bk: ∀ {j:Nat} {as:List Addr},j≠i->dZ H1 (ρ.set i (.rk A r)) (σ.set i (some (.ref p))) j as->dZ H ρ σ j as:=fun {j as} nj f=>by
  obtain⟨C,r2,q,qx,qd,q1,q2,f1,f2,f3,f4⟩:=f
  rw [bd (Ne.symm nj)] at f1 f2
  exact dZ.back S.sl s1 ⟨C,r2,q,qx,qd,q1,q2,f1,f2,f3,f4⟩
 have bi: ∀ {as:List Addr},dZ H1 (ρ.set i (.rk A r)) (σ.set i (some (.ref p))) i as->as=[p,dx,d,l1,l2]:=fun {as} f=>by
  obtain⟨C,r2,q,qx,qd,q1,q2,f1,f2,f3,f4⟩:=f
  rcases key i _ f1 with ⟨_,z,hl⟩ | ⟨z,_⟩
  ·cases z
   rw [bn (by rw [<-S.sl.len];exact hl)] at f2
   cases f2
   rw [hR.ins] at f3
   cases f3
   exact f4
  ·exact absurd rfl z
 have none0: ∀ c,H c=none->X.H₀ c=none:=fun c hc=>S.st.sh.free hc
 refine⟨S1.st,⟨by rw [List.length_set,List.length_set];exact S.sl.len,fun j sl e=> ?_⟩,fun j sl a e w h=> ?_,fun j j' sl sl' a e e' w w' h h'=> ?_,⟨fun j as f a ha=> ?_,fun j as f a ha k sl ek w hk=> ?_,fun j j' as as' a f f' ha ha'=> ?_⟩⟩
 ·rcases key j sl e with ⟨rfl,rfl,hl⟩ | ⟨z,e⟩
  ·exact⟨some (.ref p),bn (by rw [<-S.sl.len];exact hl),p,dx,d,l1,l2,rfl,hR⟩
  ·obtain⟨ov,h1,h2⟩:=S1.sl.at_ j sl e
   exact⟨ov,by rw [sne z];exact h1,h2⟩
 ·rcases key j sl e with ⟨_,rfl,_⟩ | ⟨z,e⟩
  ·cases w
  ·rw [sne z] at h;exact S.ow j sl a e w h
 ·rcases key j sl e with ⟨_,rfl,_⟩ | ⟨z,e⟩
  ·cases w
  ·rcases key j' sl' e' with ⟨_,rfl,_⟩ | ⟨z',e'⟩
   ·cases w'
   ·rw [sne z] at h
    rw [sne z'] at h'
    exact S.dj j j' sl sl' a e e' w w' h h'
 ·by_cases nj:j=i
  ·subst nj
   rw [bi f] at ha
   exact none0 a (nw a ha)
  ·exact S.rs.h0 j as (bk nj f) a ha
 ·rcases key k sl ek with ⟨_,rfl,_⟩ | ⟨z,ek2⟩
  ·cases w
  ·rw [sne z] at hk
   by_cases nj:j=i
   ·rw [nj] at f
    rw [bi f] at ha
    exact(S.sl.own_at ek2 w hk).2 (nw a ha)
   ·exact S.rs.ow j as (bk nj f) a ha k sl ek2 w hk
 ·by_cases nj:j=i
  ·by_cases nj':j'=i
   ·rw [nj,nj']
   ·rw [nj] at f
    rw [bi f] at ha
    exact absurd (nw a ha) ((bk nj' f').at S.sl a ha').2
  ·by_cases nj':j'=i
   ·rw [nj'] at f'
    rw [bi f'] at ha'
    exact absurd (nw a ha') ((bk nj f).at S.sl a ha).2
   ·exact S.rs.rr j j' as as' a (bk nj f) (bk nj' f') ha ha'
structure MkOk (X:Cx) (ad:Ad) (A:Addr):Prop where
 ok: ∃ f k fd ps,Mk X.K A f/\FnOk X.prog X.w X.K X.mg X.base (CXe X.prog X.w) k f fd ps (spI X.K ad A)/\Room (k+1) X.A/\dB X.K fd ps []
theorem aDh (MK:MkOk X ad A) (hg:L2.Gl X x) (hm:X.mg x=some (.ref A)) (hdb:(x==("__debug__":Str))=false) (hN:X.N.Nodup) (hi:X.N[i]? =some y) (hl:Loc X.env.scope y) (hf:X.fn y=true\/X.env.scope.names.lookup y=some .local):
  MS X ad Z (.Assign [.Name y yp] (.Call (.Name x np) [] [] cp) pos) (xY i A):=by
 obtain⟨f,k,fd,ps,M,F,hr,hb⟩:=MK.ok
 refine PS.imp (kH hN hi hl (fun pins s σ H Q I hq=>v7 (E:=fun _ _ _=>False) M F hr hg hm hb .nil (fun pins σ H s e s' I hc=>by obtain⟨_,_,_,_,_,_,_,_,_,_,_,_,_,_,z⟩:=hc;exact z.elim) hdb pins s σ H Q I hq) rfl hf) ?_
 rintro D' σ H ⟨G₀,G,ρ,E,S,hx,hr⟩
 intro p dx np ndx ne
 refine⟨p,dx,G,rfl, ?_,S.st.gh.free np,S.st.gh.free ndx,ne,aC,by rw [aA ne,aC],fun d l1 l2 H' nd n1 n2 hR hk=>⟨rfl, ?_⟩⟩
 ·exact S.st.gh.trans ((Same.upd_new ndx).trans (Same.upd_new (by rw [aA (Ne.symm ne)];exact np)))
 ·have back: ∀ {c:Addr},upd (upd H dx (.own p)) p (.ins A dx []) c=none->H c=none:=fun {c} hc=>by
   by_cases z:c=p
   ·rw [z];exact np
   ·by_cases z2:c=dx
    ·rw [z2];exact ndx
    ·rw [aA z,aA z2] at hc;exact hc
  have s1:Same H H':=fun b o e=>hk b o (aK e np) (by rw [aA (aK e np),aA (aK e ndx)];exact e)
  refine hr _ G H' (S.setR s1 hR (fun a ha=> ?_) (S.st.gh.trans s1))
  simp only [av,List.not_mem_nil,or_false] at ha
  rcases ha with z | z | z | z | z
  ·rw [z];exact np
  ·rw [z];exact ndx
  ·rw [z];exact back nd
  ·rw [z];exact back n1
  ·rw [z];exact back n2
end
abbrev FC:=Rho->(Bool->Rho->Out)->Out
noncomputable def aK1 (d:D) (k:Bool->Out):Out:=match d with
 | .bl b=>k b
 | _=> .rt .bad
noncomputable def aHz (f:F):FC:=fun ρ k=>fE ρ (f ρ) fun d=>aK1 d fun b=>k b ρ
noncomputable def mI (A i:Nat) (M:FM) (fs:List F) (op:CmpOp) (g:F):FC:=fun ρ k=>pJ ρ A i M fs fun d ρ1=>fE ρ1 (g ρ1) fun d2=>fE ρ1 (fX op d d2) fun z=>aK1 z fun b=>k b ρ1
noncomputable def cOr (c1 c2:FC):FC:=fun ρ k=>c1 ρ fun b ρ1=>if b then k true ρ1 else c2 ρ1 k
noncomputable def aEp (c:FC) (g h:FS):FS:=fun ρ=>c ρ fun b ρ1=>if b then g ρ1 else h ρ1
noncomputable def xZ (c:FC) (f:F):FS:=fun ρ=>c ρ fun b ρ1=>if b then cU f ρ1 else .rt (.ok (.bl false))
noncomputable def tTx (X:Cx) (ad:Ad) (Z:(St->Nat->Hp->Prop)->Prop) (c:FC):TT:=fun σ H Q=> ∃ G₀ G ρ D' E k,SS X ad G₀ G H ρ σ/\XA X ad Z E/\OKo X ad G₀ (c ρ k) D' E/\ ∀ b ρ1 G1 H1,SS X ad G₀ G1 H1 ρ1 σ->OKo X ad G₀ (k b ρ1) D' E->Q b H1
abbrev MTX (X:Cx) (ad:Ad) (Z:(St->Nat->Hp->Prop)->Prop) (e:Expr) (c:FC):Prop:=PT X e (tTx X ad Z c)
abbrev MWX (X:Cx) (ad:Ad) (Z:(St->Nat->Hp->Prop)->Prop) (e:Expr) (c:FC):Prop:=PW X e (tTx X ad Z c)
noncomputable def aH0 (X:Cx) (ad:Ad) (op:CmpOp):R2:=fun x y H Q=> ∃ G d1 d2 E,Same G H/\Rep X.K ad G d1 x/\Rep X.K ad G d2 y/\RK X.K ad G H (fX op d1 d2) Q E
section
variable {X:Cx} {ad:Ad} {Z:(St->Nat->Hp->Prop)->Prop} {A i:Nat} {M:FM} {f g:F} {fs:List F} {gs hs:FS} {a b e:Expr} {dW sa sb:List Stmt} {es:List Expr} {pos bp:Pos} {c c1 c2:FC} {op:CmpOp}
theorem uV (hu:X.A.units+62<cLine):OpR X (compareOp op) (aH0 X ad op):=by
 intro pins s σ H x y v u Q I rx ry h
 obtain⟨G,d1,d2,E,hG,r1,r2,hr⟩:=h
 exact dU op hu pins s σ H G d1 d2 x y v u Q E I hG r1 r2 rx ry hr
theorem aAa {G₀ G H:Hp} {ρ:Rho} {σ:St} {D':Ends} {E:St->Nat->Hp->Prop} {k:Bool->Rho->Out} {Q:Bool->Hp->Prop} {r:R} (S:SS X ad G₀ G H ρ σ) (hr:OKo X ad G₀ (fE ρ r fun z=>aK1 z fun b=>k b ρ) D' E) (q: ∀ b ρ1 G1 H1,SS X ad G₀ G1 H1 ρ1 σ->OKo X ad G₀ (k b ρ1) D' E->Q b H1):
  RK X.K ad G H r (fun v H'=> ∃ b,v= .bl b/\Q b H') (E σ)/\g9 r:=by
 cases r with
 | ok d=>
  cases d with
  | bl b=>
   refine⟨fun v G1 H1 st rv=> ?_, .inl ⟨b,rfl⟩⟩
   unfold Rep at rv
   exact⟨b,rv,q b ρ G1 H1 (S.step st) hr⟩
  | _=>exact hr.elim
 | ow xs=>exact hr.elim
 | ex c=>exact⟨fun G1 H1 st=>hr σ G1 H1 (S.step st), .inr ⟨c,rfl⟩⟩
 | bad=>exact hr.elim
theorem x3 (h:MT X ad e f):MTX X ad Z e (aHz f):=by
 intro pins s σ H Q I ⟨G₀,G,ρ,D',E,k,S,hx,hr,q⟩
 obtain⟨h1,h2⟩:=aAa S hr q
 exact h pins s σ H Q I ⟨G,ρ,E σ,S.st.gh,S.sl,hx.1 σ,h2,h1⟩
theorem aAb {σ:St} {H:Hp} {Q:Bool->Hp->Prop} (h:tTx X ad Z (mI A i M fs op g) σ H Q):tOp (aH0 X ad op) (nU X ad A i M fs) (tE X ad g) σ H fun v H'=> ∃ b,v= .bl b/\Q b H':=by
 obtain⟨G₀,G,ρ,D',E,k,S,hx,hr,q⟩:=h
 refine z9 S hx hr fun v y G1 H1 ρ1 S1 rv hk=> ?_
 refine eZ S1 hx hk fun v2 y2 G2 H2 st r2 k2=> ?_
 exact⟨G2,y,y2,E σ,st.gh,rv.mono st.sg,r2,(aAa (S1.step st) k2 q).1⟩
theorem aDi (hu:X.A.units+62<cLine) (ha:PE X a (nU X ad A i M fs)) (hb:ME X ad b g) (hm:behindInMarks op b=false):MTX X ad Z (.Compare a [op] [b] pos) (mI A i M fs op g):=
 fun pins s σ H Q I h=>aAw (uV hu) ha hb hm pins s σ H Q I (aAb h)
theorem aDj (h:MTX X ad Z e c):MWX X ad Z (.BoolOp .Or [e] pos) c:=pw_or1 h
theorem aH1 {r:List Expr} (ha:MTX X ad Z a c1) (hb:MWX X ad Z (.BoolOp .Or (b::r) pos) c2):MWX X ad Z (.BoolOp .Or (a::b::r) pos) (cOr c1 c2):=by
 intro wh pins s σ H Q I ⟨G₀,G,ρ,D',E,k,S,hx,hr,q⟩
 refine pw_or ha hb wh pins s σ H Q I ?_
 refine⟨G₀,G,ρ,D',E,fun b ρ1=>if b then k true ρ1 else c2 ρ1 k,S,hx,hr,fun b ρ1 G1 H1 S1 ok=> ?_⟩
 cases b
 ·exact q0 ⟨G₀,G1,ρ1,D',E,k,S1,hx,ok,q⟩
 ·exact p8 (q true ρ1 G1 H1 S1 ok)
theorem aH2 {G₀ G H:Hp} {ρ:Rho} {σ:St} {D':Ends} {E:St->Nat->Hp->Prop} (S:SS X ad G₀ G H ρ σ) (hx:XA X ad Z E) (hr:OKo X ad G₀ (cU f ρ) D' E):tE X ad f σ H D'.rt:=by
 refine⟨G,ρ,E σ,S.st.gh,S.sl,hx.1 σ, ?_⟩
 unfold cU at hr
 cases e:f ρ with
 | ok d=>rw [e] at hr;exact fun v G1 H1 st r=>hr v G1 H1 (S.st.trans st) r
 | ow xs=>rw [e] at hr;exact fun p vs G1 H1 st n m e' r=>hr p vs G1 H1 (S.st.trans st) (S.st.sh.free n) m e' r
 | ex c=>rw [e] at hr;exact fun G1 H1 st=>hr σ G1 H1 (S.step st)
 | bad=>rw [e] at hr;exact hr
theorem aH3 (hc:MTX X ad Z e c) (ha:MSs X ad Z sa gs) (hb:MSs X ad Z sb hs):MS X ad Z (.If e sa sb pos) (aEp c gs hs):=by
 refine PS.imp (aAq hc ha hb) ?_
 rintro D' σ H ⟨G₀,G,ρ,E,S,hx,hr⟩
 refine⟨G₀,G,ρ,D',E,fun b ρ1=>if b then gs ρ1 else hs ρ1,S,hx,hr,fun b ρ1 G1 H1 S1 ok=> ?_⟩
 cases b
 ·exact q0 ⟨G₀,G1,ρ1,E,S1,hx,ok⟩
 ·exact p8 ⟨G₀,G1,ρ1,E,S1,hx,ok⟩
theorem aDk {pos2:Pos} (hu:X.A.units+62<cLine) (ha:PE X a (nU X ad A i M fs)) (hb:ME X ad b g) (hm:behindInMarks op b=false) (hr0:ME X ad (.BoolOp .And (e::es) bp) f):MS X ad Z (.Return (some (.BoolOp .And (.Compare a [op] [b] pos::e::es) bp)) pos2) (xZ (mI A i M fs op g) f):=by
 refine PS.imp (kG (yJ (aAv (uV (ad:=ad) hu) ha hb hm) hr0)) ?_
 rintro D' σ H ⟨G₀,G,ρ,E,S,hx,hr⟩
 have key:=aAb (Q:=fun b H1=>if b=true then tE X ad f σ H1 D'.rt else D'.rt (.bl false) H1) ⟨G₀,G,ρ,D',E,fun b ρ1=>if b then cU f ρ1 else .rt (.ok (.bl false)),S,hx,hr,fun b ρ1 G1 H1 S1 ok=>by
  cases b
  ·exact q0 ((show OKo X ad G₀ (.rt (.ok (.bl false))) D' E from ok) (.bl false) G1 H1 S1.st (by unfold Rep;rfl))
  ·exact p8 (aH2 S1 hx ok)⟩
 unfold tOp at key
 unfold aLk aAn tOp
 exact key
end
noncomputable def aK2 (f:Str):Stmt->Option Str
 | .Assign [.Attribute (.Name x _) g _] (.Dict [] [] _) _=>if g=f then some x else none
 | _=>none
noncomputable def aI8 (f:Str):Stmt->Option Str
 | .Assign [.Attribute (.Name x _) g _] (.List [] _) _=>if g=f then some x else none
 | _=>none
noncomputable def aDl (x:Str):List Stmt->Bool
 | [a,b,c]=>aK2 "held" a==some x&&aI8 "done" b==some x&&aI8 "undone" c==some x
 | _=>false
theorem aDm {f x:Str} {st:Stmt} (h:aK2 f st=some x): ∃ n q e a,st= .Assign [.Attribute (.Name x n) f q] (.Dict [] [] e) a:=by
 unfold aK2 at h
 split at h
 ·split at h
  ·rename_i hg
   subst hg
   cases h
   exact⟨_,_,_,_,rfl⟩
  ·cases h
 ·cases h
theorem uW {f x:Str} {st:Stmt} (h:aI8 f st=some x): ∃ n q e a,st= .Assign [.Attribute (.Name x n) f q] (.List [] e) a:=by
 unfold aI8 at h
 split at h
 ·split at h
  ·rename_i hg
   subst hg
   cases h
   exact⟨_,_,_,_,rfl⟩
  ·cases h
 ·cases h
theorem x4 {x:Str} {b:List Stmt} (h:aDl x b=true): ∃ n1 q1 a1 n2 q2 a2 n3 q3 a3 e1 e2 e3,b=aMe x n1 q1 a1 n2 q2 a2 n3 q3 a3 e1 e2 e3:=by
 unfold aDl at h
 split at h
 ·simp only [aw,beq_iff_eq] at h
  obtain⟨⟨h1,h2⟩,h3⟩:=h
  obtain⟨n1,q1,e1,a1,rfl⟩:=aDm h1
  obtain⟨n2,q2,e2,a2,rfl⟩:=uW h2
  obtain⟨n3,q3,e3,a3,rfl⟩:=uW h3
  exact⟨n1,q1,a1,n2,q2,a2,n3,q3,a3,e1,e2,e3,rfl⟩
 ·cases h
section
variable {P:Program} {w:World} {K:Frag} {mg:Str->Option Value} {base h:Heap} {ad:Ad} {k:Nat} {tab:List (Str×SK.Gl)} {fns:List (Nat×Fn)}
theorem aH4 {x qual self:Str} {st:Stmt} {f:Addr} {fd:FuncData} {A:Nat} (RC:RkC K A) (Fu:Fun K x qual st f fd) (hs:bI (aB (defScope st)) [self] (defScope st)=true) (hb:aDl self (defBody st)=true):FnOk P w K mg base (CXe P w) (k+1) f fd [self] (spI K ad A):=by
 obtain⟨oc,od,kV,doc,pm,an,cdv,ct,osl,rfl,lk,hcd⟩:=Fu.ex
 obtain⟨S,nm⟩:=bW hs
 obtain⟨n1,q1,a1,n2,q2,a2,n3,q3,a3,e1,e2,e3,hbd⟩:=x4 hb
 have h0:(aB (defScope st))[0]? =some self:=by
  have:=S.pre
  cases e:aB (defScope st) with
  | nil=>rw [e] at this;cases this
  | cons y ys=>rw [e] at this;cases this;rfl
 have hm:self∈aB (defScope st):=List.mem_of_getElem? h0
 refine aA0 lk hcd S (fun vs H Q E hz_=> ?_) fun A' outer s H vs Q E hr hz_=> ?_
 ·obtain⟨p,dx,G,rfl,_⟩:=hz_
  rfl
 ·obtain⟨p,dx,G,rfl,hG,gp,gx,ne,hp,hx,hq⟩:=hz_
  rw [hbd]
  refine uU ⟨RC,h0,(S.par self (.head _)).elim .inl fun z=> .inr (.inl z),(nm _ hm).1,(nm _ hm).2⟩ (p:=p) (dx:=dx) (G:=G) ?_ hG gp gx ne hp hx hq
  unfold L2.start
  rfl
theorem eB.mono {k':Nat} (h:eB P w K mg base ad k fns) (hk:k<=k'):eB P w K mg base ad k' fns:=fun j n F e=>let ⟨r,h1,h2⟩:=h j n F e;⟨r,Nat.le_trans h1 hk,h2⟩
theorem aAc {A:Addr} (h1:PySem.W.plainGet K A Str.empty=true) (h2:PySem.W.hasDictIn K A=true) (h3:PySem.W.plainOver K A=true) (h4:PySem.W.findIn K (.ref A) "__setattr__"=some (some (.builtin "object.__setattr__")))
  (h5:PySem.W.findIn K (.ref A) "held"=some none) (h6:PySem.W.findIn K (.ref A) "done"=some none) (h7:PySem.W.findIn K (.ref A) "undone"=some none):RkC K A:=⟨⟨h1,h2,h3,h4⟩,h5,h6,h7⟩
theorem PQ.rack (T:PQ P w K mg base h ad k tab fns) (A:Addr) (c:RkC K A) (hm:nsIn K mainGlobals "Rack"=some (some (.ref A)):=by kernel_rfl):PQ P w K mg base h ad k (("Rack", .cls A [])::tab) fns:=
 ⟨cT.cons T.t (by decide) ⟨PySem.W.mg_of T.X T.G hm,c,fun _ _ _ e=>by cases e⟩,T.u,T.X,T.G,T.B⟩
def aNm (x qual:Str) (st:Stmt) (ps:List Str):Prop:= ∀ (kV doc pm:Value) (an:Option Addr) (cdv ct:Value) (us:List Value),us.length=ps.length->bindArgs (PySem.W.fnOf x qual (defArgs st) (defBody st) (defScope st) .none kV doc pm an cdv ct) ⟨us,[]⟩=pure (ps.zip us)
theorem PQ.met (T:PQ P w K mg base h ad k tab fns) (m qual:Str) (st:Stmt) (f:Addr) (self:Str) (ps:List Str) (n:Nat) (M:FM) {A:Addr} {ms:List (Str×Nat×FM)} {oc:Value} {od an:Option Addr} {osl:Array (Option Value)} {kV doc pm cdv ct:Value} (l:K.lookup f=some ⟨oc,od, .func (PySem.W.fnOf m qual (defArgs st) (defBody st) (defScope st) .none kV doc pm an cdv ct),osl⟩)
  (hl:tab.lookup ("Rack":Str)=some (SK.Gl.cls A ms)) (d:aHv tab A ms st=some (n,M):=by kernel_rfl) (c:codeIn K cdv qual=true:=by kernel_rfl) (kp:keepIn K (.ref f)=true:=by kernel_rfl) (m1:PySem.W.findIn K (.ref A) m=some (some (.ref f)):=by kernel_rfl) (m2:PySem.W.isFn K (.ref f)=true:=by kernel_rfl)
  (no:m≠"held"/\m≠"done"/\m≠"undone":=by decide) (hps:cR (defArgs st)=some (self::ps):=by rfl) (hb:aNm m qual st (self::ps):=by intro _ _ _ _ _ _ us hl;rcases us with _ | ⟨u0,_ | ⟨u1,_ | ⟨u2,_ | ⟨u3,_ | ⟨u4,_ | ⟨u5,us⟩⟩⟩⟩⟩⟩<;>first | rfl | (simp at hl)):
  PQ P w K mg base h ad (k+1) (("Rack", .cls A ((m,n,M)::ms))::tab) fns:=by
 have F:=lC (x:=m) (qual:=qual) (st:=st) l c kp
 obtain⟨c1,c2,c3⟩:=(T.t "Rack" _ hl).2
 have ok:=aHw (k:=k) T.B T.t c2 c3 F hps d
 refine⟨cT.cons (T.t.mono (Nat.le_succ k)) (by decide) ⟨c1,c2,fun m' n' M' e=> ?_⟩,T.u.mono (Nat.le_succ k),T.X,T.G,T.B⟩
 rw [List.lookup_cons] at e
 cases q:m'==m with
 | true=>
  rw [q] at e
  cases e
  cases eq_of_beq q
  exact⟨no,f,k+1,_,_,ak _,⟨m1,m2,kp⟩,ok,F.binds hb⟩
 | false=>
  rw [q] at e
  obtain⟨no',f',r,fd,ps',h1,h2⟩:=c3 m' n' M' e
  exact⟨no',f',r,fd,ps',Nat.le_trans h1 (Nat.le_succ k),h2⟩
end
def aK3 (o:Obj) (q:Str):Prop:= ∃ vs t,o.data= .fields vs/\vs[1]? =some (.str q t)
structure Tb (P:Addr) (q:Str) (ps:Array Value) (cs:List (Addr×Obj)):Prop where
 ok:TriplesOk ps.toList
 cod: ∀ pos cv,codeAmong pos ps.toList=some cv-> ∃ c o,cv= .ref c/\(c,o)∈cs/\aK3 o q
 ne: ∀ p∈cs,p.1≠P
theorem fT: ∀ {l:List Value} {i j:Int} {a b:Nat} {c:Value},TriplesOk l->TriplesOk (l++[.int i a, .int j b,c])
 | [],_,_,_,_,_,_=>trivial
 | .int _ _:: .int _ _::_::r,_,_,_,_,_,h=>fT (l:=r) h
theorem jD {pos pos':Pos} {c cv:Value}: ∀ {l:List Value},TriplesOk l->codeAmong pos' (l++[rawInt pos.line,rawInt pos.col,c])=some cv->codeAmong pos' l=some cv\/cv=c
 | [],_,h=>by
  simp only [List.nil_append,codeAmong,rawInt] at h
  split at h
  ·exact .inr (Option.some.inj h).symm
  ·cases h
 | .int i a:: .int j b::d::r,ht,h=>by
  simp only [List.cons_append,codeAmong] at h ⊢
  split at h
  ·rename_i hc
   rw [if_pos hc]
   exact .inl h
  ·rename_i hc
   rw [if_neg hc]
   exact jD (l:=r) ht h
section
variable {X:Cx} {P c:Addr} {q:Str} {ps:Array Value} {cs pins:List (Addr×Obj)} {σ:St} {H:Hp} {s:Shared} {params:Arguments} {body:Expr} {sc:Scope} {pos:Pos} {R':Value->Shared->Prop}
theorem uX (I:Inv X ((P,PySem.W.tabObj ps)::(cs++pins)) σ H s) (T:Tb P q ps cs) (hx:P∈X.ex) (hpn: ∀ p∈X.pn++pins,p.1≠P) (hpar:defaultsOf params X.env=([],[])) (hq:X.env.qual++"<lambda>"=q)
  (hfree: ∀ x,(x,NameKind.free)∈sc.names->X.env.kindOf x=some .cell\/X.env.kindOf x=some .free) (hcode:X.env.code= .ref c) (hC:PySem.W.CodeHd s.heap c P) (hB:s.heap.BuiltinsAt X.mg P)
  (k: ∀ (a:Addr) (ps':Array Value) (cs':List (Addr×Obj)) (cv ctv:Value) (s':Shared),Inv X ((P,PySem.W.tabObj ps')::(cs'++pins)) σ H s'->Tb P q ps' cs'->(∃ more,ps'=ps++more)->(∀ p∈cs',p∈cs\/s.heap.objs.size<=p.1)->s.heap.objs.size<=a->
   s'.heap.get? a=some { cls:= .type "function",data:= .func (PySem.W.kla_fn "<lambda>" q params body sc (hJ X.env.cells sc.names []) ((X.mg "__name__").getD .none) cv ctv) }->s'.heap.CodeRec cv q->
   (∀ b o,b≠P->s.heap.get? b=some o->s'.heap.get? b=some o)->R' (.ref a) s'):
  wpAny (model X.prog X.w) X.A (eval (.Lambda params body sc pos) X.env) R' X.xe s:=by
 have hcl:closureFor sc X.env=pure (hJ X.env.cells sc.names []):=fI fun x hx=>by
  obtain⟨c,h⟩:=I.ok.has x (hfree x hx)
  rw [h];rfl
 have pP:=I.pin (P,PySem.W.tabObj ps) (bt _ (.head _))
 have hg:s.heap.Ns mainGlobals X.mg:=I.mod.glob.keeps I.bk
 have hgP:mainGlobals≠P:=fun z=>by
  obtain⟨o,es,ep,e,hd,_⟩:=hg
  have e2:=pP.1
  rw [z] at e
  rw [e] at e2
  cases e2
  cases hd
 -- without the table's pin
 have I0:Inv X (cs++pins) σ H s:=I.pins_of fun p hp=>I.pin p (bt _ (.tail _ hp))
 have inP: ∀ p∈X.pn++(cs++pins),p.1≠P:=fun p hp=>by
  rcases List.mem_append.mp hp with h | h
  ·exact hpn p (List.mem_append_left _ h)
  ·rcases List.mem_append.mp h with h | h
   ·exact T.ne p h
   ·exact hpn p (bt _ h)
 have hch: ∀ b∈[P],(b∈X.ex\/X.s₀.heap.objs.size<=b)/\b≠X.env.locals/\(∀ x c,X.env.cells.lookup x=some c->c≠b)/\ ∀ p∈X.pn++(cs++pins),p.1≠b:=fun b hb=>by
  rw [List.mem_singleton.mp hb]
  exact⟨.inl hx,(I.ok.exf P hx).1,(I.ok.exf P hx).2,inP⟩
 -- the state behind
 have after: ∀ (h':Heap) (tk:Nat),(∀ b o,b≠P->s.heap.get? b=some o->h'.get? b=some o)->Inv X (cs++pins) σ H { s with heap:=h',toks:=tk }:=fun h' tk ext=>by
  have neP: ∀ b,b∉[P]->b≠P:=fun b hb z=>hb (by rw [z];exact .head _)
  refine I0.step (ch:=[P]) (g':=s.gens) (d':=s.drawn) hch (fun b o _ _ hb e _=>ext b o (neP b hb) e) (fun b o _ _ hb e _=>⟨o.slots,ext b o (neP b hb) e⟩) (fun b o _ _ n=>n) (fun b o hb e=>⟨o,ext b o (neP b hb) e⟩) (fun _ _ e=>e) (fun _ _ _ e=>e) (fun b ps e=>⟨#[],by rw [e];simp⟩) (fun m hn=> ?_) (fun a o e=> ?_) I.bare
  ·obtain⟨o,es,ep,e,r⟩:=hn
   exact⟨o,es,ep,ext _ o (I.ok.exf P hx).1.symm e,r⟩
  ·have nP: ∀ b,H b≠none->b≠P:=fun b hb z=>hb (by rw [z];exact pP.2.1)
   refine(I.hok a o e).stay (fun b u hb q=>ext b u ?_ q) (fun _ q=>q) fun _ _ q=>q
   rcases hb with rfl | hb
   ·exact nP _ (by rw [e];exact fun z=>nomatch z)
   ·exact nP _ (by rw [hb];exact fun z=>nomatch z)
 refine PySem.W.kla_eval hpar ?_
 rw [hq]
 cases hf:codeAmong pos ps.toList with
 | some cv=>
  refine PySem.W.kla_makeFunctionHit (mg:=X.mg) hcl I.ok.glob hg hcode hC pP.1 T.ok hf hB fun ctv h' tk hk hsz=> ?_
  obtain⟨c1,o1,e1,m1,r1⟩:=T.cod pos cv hf
  have p1:=I.pin (c1,o1) (bt _ (.tail _ (List.mem_append_left _ m1)))
  have ext: ∀ b o,s.heap.get? b=some o->(h'.push { cls:= .type "function",data:= .func (PySem.W.kla_fn "<lambda>" q params body sc (hJ X.env.cells sc.names []) ((X.mg "__name__").getD .none) cv ctv) }).get? b=some o:=fun b o e=>ag _ (hk b o e)
  refine k _ ps cs cv ctv _ ((after _ tk fun b o _ e=>ext b o e).pins_of fun p hp=> ?_) T ⟨#[],by simp⟩ (fun p hp=> .inl hp) hsz (ah _ rfl) ?_ fun b o _ e=>ext b o e
  ·have:=I.pin p (bt _ hp)
   exact⟨ext _ _ this.1,this.2⟩
  ·obtain⟨vs,t,d,v⟩:=r1
   exact⟨c1,o1,vs,t,e1,ext _ _ p1.1,d,v⟩
 | none=>
  refine PySem.W.kla_makeFunction (mg:=X.mg) hcl I.ok.glob hg hcode hC pP.1 T.ok hf hgP hB fun c' ctv h' tk hx' hge hlt hrec htb=> ?_
  obtain⟨c2,oc,vs,t,e2,hoc,hd,hv⟩:=hrec
  cases e2
  have ext: ∀ b o,b≠P->s.heap.get? b=some o->(h'.push (PySem.W.kla_obj "<lambda>" q params body sc (hJ X.env.cells sc.names []) ((X.mg "__name__").getD .none) c' ctv)).get? b=some o:=fun b o ne e=>ag _ (hx' b o ne e)
  have hPlt:P<s.heap.objs.size:=ai pP.1
  have ncell: ∀ v,oc.data≠ .cell v:=fun v z=>by rw [hd] at z;cases z
  have hcn:H c'=none:=I.hok.fresh hge
  refine k _ (ps++ #[rawInt pos.line,rawInt pos.col, .ref c']) ((c',oc)::cs) (.ref c') ctv _ ((after _ tk ext).pins_of fun p hp=> ?_) ⟨?_, ?_, ?_⟩ ⟨_,rfl⟩ (fun p hp=>(av.mp hp).elim (fun z=> .inr (by rw [z];exact hge)) .inl) (Nat.le_trans hge (Nat.le_of_lt hlt)) (ah _ rfl) ?_ ext
  ·rcases av.mp hp with rfl | hp
   ·exact⟨ag _ htb,pP.2.1,pP.2.2.1,pP.2.2.2.1,fun v z=>nomatch z⟩
   ·rcases av.mp hp with rfl | hp
    ·refine⟨ag _ hoc,hcn, ?_,I.nofs hge,ncell⟩
     exact Nat.ne_of_gt (bh I.lt hge)
    ·have:=I.pin p (bt _ (.tail _ hp))
     exact⟨ext _ _ (inP p (bt _ hp)) this.1,this.2⟩
  ·rw [Array.toList_append]
   exact fT T.ok
  ·intro pos' cv h
   rw [Array.toList_append] at h
   rcases jD T.ok h with h | rfl
   ·obtain⟨c1,o1,e1,m1,r1⟩:=T.cod pos' cv h
    exact⟨c1,o1,e1, .tail _ m1,r1⟩
   ·exact⟨c',oc,rfl, .head _,vs,t,hd,hv⟩
  ·intro p hp
   rcases av.mp hp with rfl | hp
   ·exact Nat.ne_of_gt (bh hPlt hge)
   ·exact T.ne p hp
  ·exact⟨c',oc,vs,t,rfl,ag _ hoc,hd,hv⟩
end
noncomputable abbrev aAd (qual:Str) (sc:Scope) (L f:Addr) (cd:Value) (cl:List (Str×Addr)):PySem.Env:=PySem.W.envX qual sc L f cd cl
noncomputable def cxL (CX:CXT) (P:Program) (w:World) (K:PySem.W.Frag) (mg:Str->Option Value) (base:Heap) (N:List Str) (qual:Str) (sc:Scope) (f:Addr) (cd:Value) (cl:List (Str×Addr)) (A:Around) (outer:List PySem.Env) (s:Shared) (H:Hp) (E:XK):Cx where
 prog:=P
 w:=w
 K:=K
 mg:=mg
 base:=base
 A:=A.deeper (aAd qual sc s.heap.objs.size f cd cl)
 N:=N
 s₀:=s
 H₀:=H
 env:=aAd qual sc s.heap.objs.size f cd cl
 outer:=outer
 stack:=aAd qual sc s.heap.objs.size f cd cl::outer
 ex:=[]
 calm:=true
 fn:=fun _=>false
 pn:=[]
 xe:=fun e s'=>wpAny (model P w) (A.deeper (aAd qual sc s.heap.objs.size f cd cl)) (leaving (aAd qual sc s.heap.objs.size f cd cl) e) (fun _ s''=>CX outer H s E e s'') (fun e' s''=>CX outer H s E e' s'') s'
structure LamSc (N:List Str) (sc:Scope):Prop where
 kind:sc.kind= .function
 co:sc.isCoroutine=false
 gen:sc.isGenerator=false
 nocell: ∀ x∈sc.names,x.2≠ .cell
 noloc: ∀ x,sc.names.lookup x≠some .local
section
variable {CX:CXT} {P:Program} {w:World} {K:PySem.W.Frag} {mg:Str->Option Value} {base:Heap} {N:List Str} {name qual:Str} {sc:Scope} {f:Addr} {cd pm ct:Value} {cl:List (Str×Addr)} {A:Around} {outer:List PySem.Env} {s:Shared} {H:Hp} {E:XK} {Q:VK} {params:Arguments} {body:Expr} {vs:List V}
theorem uY {h':Heap} {t':Nat} {m:Str->Option Value} (S:LamSc N sc) (hd:A.handled=none) (e0:Env0 P w K mg base A outer s H) (hns:h'.Ns s.heap.objs.size m) (hk: ∀ b o,s.heap.get? b=some o->h'.get? b=some o)
  (inj: ∀ x y c,cl.lookup x=some c->cl.lookup y=some c->x=y) (has: ∀ x,sc.names.lookup x=some .free-> ∃ c,cl.lookup x=some c) (cel: ∀ x c,cl.lookup x=some c->(∃ v,s.heap.IsCell c v)/\H c=none)
  (hl:vs.length=N.length) (hv: ∀ (i:Nat) (x:Str) (v:V),N[i]? =some x->vs[i]? =some v->sc.names.lookup x=some .free-> ∃ u c,aP v u/\cl.lookup x=some c/\s.heap.IsCell c (some u)):
  Inv (cxL CX P w K mg base N qual sc f cd cl A outer s H E) [] (vs.map some) H { s with heap:=h',toks:=t' }:=by
 have noA: ∀ b:Addr,b∉(cxL CX P w K mg base N qual sc f cd cl A outer s H E).ex:=fun b z=>absurd (show b∈([]:List Addr) from z) (by simp)
 have noC: ∀ x,sc.names.lookup x≠some .cell:=fun x z=>S.nocell _ (PySem.mem_of_lookup z) rfl
 refine⟨⟨e0.mod,S.kind,rfl,rfl,ak _,inj,fun y hy=> ?_,fun y c hy _=>(bg hy).elim,fun _=>hd,Around.frames_deeper e0.frames, .inr ⟨rfl,rfl⟩,fun b z=>absurd z (noA b),e0.bs,e0.bsz,fun b _ _=>noA b,fun b z=>absurd z (noA b),e0.funs,e0.frf⟩,
  rfl,e0.bare,Un.kept hk,⟨m,hns,fun i y v h1 h2 h3=> ?_⟩,fun y c h=> ?_,e0.hok.fresh (ak _),fun y c h=>(cel y c h).2,fun p hp=>absurd (show p∈([]:List (Addr×Obj)) from hp) (by simp),e0.hok.kept hk,(aq ..).trans hl⟩
 ·have hy:sc.names.lookup y=some .cell\/sc.names.lookup y=some .free:=hy
  rcases hy with hy | hy
  ·exact absurd hy (noC y)
  ·exact has y hy
 ·have h2':vs[i]? =some v:=by
   rw [List.getElem?_map] at h2
   cases q:vs[i]? with
   | none=>rw [q] at h2;cases h2
   | some a=>rw [q] at h2;cases h2;rfl
  have h3:sc.names.lookup y=some .local\/sc.names.lookup y=some .cell\/sc.names.lookup y=some .free:=h3
  rcases h3 with z | z | z
  ·exact absurd z (S.noloc y)
  ·exact absurd z (noC y)
  ·obtain⟨u,c,r,e1,o,ho,hd⟩:=hv i y v h1 h2' z
   exact⟨u,r, .inr ⟨.inr z,c,e1,o,hk _ _ ho,hd⟩⟩
 ·obtain⟨⟨v,o,ho,hd⟩,_⟩:=cel y c h
  exact⟨v,o,hk _ _ ho,hd⟩
theorem aDn {k:Nat} (S:LamSc N sc) (hobj:s.heap.get? f=some { cls:= .type "function",data:= .func (PySem.W.kla_fn name qual params body sc cl pm cd ct) }) (hcd:s.heap.CodeRec cd qual) (hbind:bindArgs (PySem.W.kla_fn name qual params body sc cl pm cd ct) ⟨[],[]⟩=pure [])
  (hr:Room (k+1) A) (e0:Env0 P w K mg base A outer s H)
  (inj: ∀ x y c,cl.lookup x=some c->cl.lookup y=some c->x=y) (has: ∀ x,sc.names.lookup x=some .free-> ∃ c,cl.lookup x=some c) (cel: ∀ x c,cl.lookup x=some c->(∃ v,s.heap.IsCell c v)/\H c=none)
  (hl:vs.length=N.length) (hv: ∀ (i:Nat) (x:Str) (v:V),N[i]? =some x->vs[i]? =some v->sc.names.lookup x=some .free-> ∃ u c,aP v u/\cl.lookup x=some c/\s.heap.IsCell c (some u))
  (hb: ∃ t,PE (cxL CX P w K mg base N qual sc f cd cl A outer s H E) body t/\t (vs.map some) H Q):
  codeAny (model P w) A (.call (.ref f) ⟨[],[]⟩) (CR CX outer P w H s Q E) s:=by
 have lim:s.heap.NoLimit:=e0.mod.nolimit.keeps fun b o e=>(e0.bs b o e).1
 refine PySem.W.kla_callFunE hr.depth hobj rfl S.co S.gen rfl hcd ?_
 rw [hbind]
 refine af (wpAny_newFunctionEnv S.nocell (fun x hx=>nomatch hx) (fun h' hns hsb=>⟨lim.fresh _ hsb, ?_⟩) S.kind)
 have hk: ∀ b o,s.heap.get? b=some o->h'.get? b=some o:=fun b o e=>hsb.extBut b o (bj (ai e)) (ag _ e)
 show codeAny _ _ (.expr body (aAd qual sc s.heap.objs.size f cd cl)) _ _
 obtain⟨t,ht,hq⟩:=hb
 have I:=uY (CX:=CX) (E:=E) (t':=s.toks+0) (qual:=qual) (f:=f) (cd:=cd) S hr.hd e0 hns hk inj has cel hl hv
 refine PySem.W.kla_codeExpr (wpAny_mono (ht [] _ (vs.map some) H Q I hq) (fun v s' hs=> ?_) fun e s' hs=>hs)
 obtain⟨x,H',J,rv,q⟩:=hs
 exact⟨x,H',J.os,J.bare,J.base,J.hok,rv,q⟩
end
structure RoomQ (k:Nat) (A:Around):Prop where
 dp:A.depth+3 * k+5<recursionLimit
 un:A.units+16 * k+200<cLine
structure FnOkQ (P:Program) (w:World) (K:PySem.W.Frag) (mg:Str->Option Value) (base:Heap) (CX:CXT) (k:Nat) (f:Addr) (fd:FuncData) (ps:List Str) (sp:Sp):Prop where
 len: ∀ vs H Q E,sp vs H Q E->vs.length=ps.length
 run: ∀ (A:Around) (outer:List PySem.Env) (s:Shared) (H:Hp) (args:Args) (us:List Value) (vs:List V) (Q:VK) (E:XK),RoomQ k A->Env0 P w K mg base A outer s H->BindsTo s fd args (ps.zip us)->aS vs us->sp vs H Q E->
  codeAny (model P w) A (.call (.ref f) args) (CR CX outer P w H s Q E) s
noncomputable def qX (X:Cx) (A:Around) (Ex:Value->Shared->Prop):Cx:={ X with A:=A,calm:=false,xe:=Ex }
section
variable {X:Cx} {ad:Ad} {pins:List (Addr×Obj)} {s:Shared} {σ:St} {H:Hp} {A:Around} {Ex:Value->Shared->Prop}
theorem aH5 (hA:A.frames=X.A.frames) (I:Inv X pins σ H s):Inv (qX X A Ex) pins σ H s:=
 ⟨⟨I.ok.mod,I.ok.kind,I.ok.glob,I.ok.blt,I.ok.above,I.ok.inj,I.ok.has,I.ok.cab,(fun z=>(bg z).elim),hA.trans I.ok.frames,I.ok.stk,I.ok.exf,I.ok.bs,I.ok.bsz,I.ok.noex,I.ok.exfs,I.ok.funs,I.ok.frf⟩,I.os,I.bare,I.base,I.loc,I.cell,I.free,I.freeC,I.pin,I.hok,I.len⟩
theorem aH6 (h:Cx.Ok X) (I:Inv (qX X A Ex) pins σ H s):Inv X pins σ H s:=
 ⟨h,I.os,I.bare,I.base,I.loc,I.cell,I.free,I.freeC,I.pin,I.hok,I.len⟩
end
section
variable {X:Cx} {ad:Ad} {i kf:Nat} {en x q1:Str} {ea fa:Addr} {F:Fn} {fd:FuncData} {p p2 pos:Pos}
theorem x5 (hi:X.N[i]? =some en) (hv:Vis X.env.scope en) (hde:(en==("__debug__":Str))=false) (hdc:(en==("__classdict__":Str))=false) (hg:L2.Gl X x) (hm:X.mg x=some (.ref fa)) (hdb:(x==("__debug__":Str))=false) (hk:PySem.W.keepIn X.K (.ref fa)=true)
  (hf:FnOkQ X.prog X.w X.K X.mg X.base (CXe X.prog X.w) kf fa fd [q1] (qD X.K ad 1 F)) (hb:dB X.K fd [q1] []) (hr:RoomQ kf X.A) (he:starEach [.Name en p2] X.env=(false,eval (.Name en p2) X.env)::starEach [] X.env) (hpl:(backTo pos (starEach [] X.env)).any (·.1)=false):
  PE X (.Call (.Name x p) [.Name en p2] [] pos) (fun σ H Q=>σ[i]? =some (some (.ref ea))/\qD X.K ad 1 F [.ref ea] H Q fun _ _ _=>False):=by
 intro pins s σ H Q I ⟨h1,hsp⟩
 refine wpAny_Call_Name_kw (eM I hg hm ?_ hdb)
 refine PySem.W.callWith_K (h₀:=X.base) I.ok.mod.kin hk (L2.thn (bU (aV hi hv hde hdc) cI he pos pins s σ H (fun vs H1=>vs=[.ref ea]/\H1=H) I ⟨.ref ea,h1,rfl,rfl⟩) fun us s1 ⟨vs,H1,I1,r,e1,e2⟩=>⟨I1.kIn, ?_⟩) he hpl
 subst e1 e2
 have hl:(us++[]).length=[q1].length:=by rw [List.append_nil, <-r.length];rfl
 refine wpAny_call (codeAny_mono (hf.run X.A X.stack s1 H1 ⟨us,[]⟩ us [.ref ea] Q (fun _ _ _=>False) hr I1.env0 (by have:=hb s1 us I1.kIn hl;rwa [List.append_nil] at this) r hsp) fun r s' hq=> ?_)
 cases r with
 | error e=>obtain⟨_,_,_,_,_,_,_,_,_,_,_,_,_,_,z⟩:=hq;exact z.elim
 | ok fl=>
  cases fl with
  | ret u=>exact I1.after hq
  | next=>exact ba hq
  | brk=>exact ba hq
  | cont=>exact ba hq
end
section
variable {X:Cx} {ad:Ad} {pins pins':List (Addr×Obj)} {s:Shared} {σ:St} {H H':Hp} {B h':Heap} {ea:Addr} {cls a0:Value} {D':Ends} {hd:ExceptHandler}
theorem qR {i:Nat} {en x cx:Str} {cp xp ep ap hp' rq:Pos} {F:Fn} {kf:Nat} {fa:Addr} {fd:FuncData} {q1:Str} {c:Nat} (F0:Fram X) (hN:X.N.Nodup) (hi:X.N[i]? =some en) (hil:X.env.scope.names.lookup en=some .local) (hic:(en==("__classdict__":Str))=false) (hgx:L2.Gl X x) (hmx:X.mg x=some (.ref fa)) (hdx:(x==("__debug__":Str))=false) (hkx:PySem.W.keepIn X.K (.ref fa)=true) (hfx:FnOkQ X.prog X.w X.K X.mg X.base (CXe X.prog X.w) kf fa fd [q1] (qD X.K ad 1 F)) (hbx:dB X.K fd [q1] []) (hrq: ∀ v,RoomQ kf (X.A.mark v)) (hg:L2.Gl X cx) (hm:X.mg cx=some (.ref (ad.cls 0)))
  (hdb:(cx==("__debug__":Str))=false) (hde:(en==("__debug__":Str))=false) (hx:exmOne X.K (.ref (ad.cls c)) (.ref (ad.cls 0))=some true)
  (I:Inv X pins σ H s) {s':Shared} (ho:s'.os=s.os) (hgn:AllBare s'.gens) (fly:Heap.FlyingW B X.stack ea (.ref (ad.cls c)) a0 s'.heap) (un:Un (frs X.stack) [] H H' s.heap s'.heap) (hok:HOk X.prog X.w H' s'.heap) (ne:H' ea=none)
  (c8: ∀ b o,s.heap.get? b=some o->b∉frs X.stack-> ∃ o',B.get? b=some o') (c9: ∀ b o,H' b=some o-> ∃ o',B.get? b=some o')
  (hGe: ∃ G,Same G (upd H' ea (yZ (ad.cls c) ea))/\Rep X.K ad G (.exc c) (.ref ea)/\RK X.K ad G (upd H' ea (yZ (ad.cls c) ea)) (F [.exc c]) D'.rt fun _ _=>False):
  (tX X pins D' (.ExceptHandler (some (.Name cx cp)) (some en) [.Return (some (.Call (.Name x xp) [.Name en ep] [] ap)) rq] hp')).xe (.ref ea) s':=by
 have hfr:X.A.frames=some (X.env::X.outer):=by rw [<-F0.stk];exact I.ok.frames
 have nfs: ∀ {h:Heap},h.FunFrames B X.stack-> ∀ b∈frs X.stack, ∀ o,h.get? b=some o-> ∀ vs,o.data≠ .fields vs:=fun ff b hb o e=>by
  obtain⟨_,o2,e2,nf⟩:=ff.mem (b:=b) hb
  rw [e] at e2
  cases e2
  exact nf
 -- the invariant through the stations
 have inv: ∀ h2:Heap,B.StaysIn h2->s'.heap.UpToSlots h2->Inv X pins σ H' { s' with heap:=h2 }:=fun h2 st2 up=>
  I.call' (ch:=[]) (s':={ s' with heap:=h2 }) ho (aKh un fly.1 st2 up (nfs fly.2.2.1) c8) (aGy hok fly.1 st2 c9) hgn fun b hb=>by simp at hb
 have new0:s.heap.get? ea=none:=by
  cases e:s.heap.get? ea with
  | none=>rfl
  | some o=>
   by_cases hf:ea∈frs X.stack
   ·obtain⟨oe,vs,_,_,_,he,_,hd,_⟩:=fly.2.2.2
    exact absurd hd (nfs fly.2.2.1 ea hf oe he vs)
   ·obtain⟨o',e'⟩:=c8 ea o e hf
    rw [fly.2.1] at e'
    cases e'
 show wpAny (model X.prog X.w) X.A (noteFrame (.ref ea) X.env) _ X.xe s'
 have fly0:=fly
 rw [F0.stk] at fly0
 refine wpAny_looks_onW hfr F0.fr fly0 fun h1 hheld up1=> ?_
 refine wpAny_landsW hheld fun h2 fly2 up2=> ?_
 have up12:=up1.trans up2
 have J2:=inv h2 fly2.1 up12
 refine wpAny_handleBy_cons (codeAny_handlers_test ?_) (by intro z;cases z)
 refine Calls.Name_function_global J2.ok.kind hg (Calls.loadGlobal_global (by rw [J2.ok.glob];exact J2.mod.glob.keeps J2.bk) hm ?_) hdb
 have LT:Looks (model X.prog X.w) h2 (typeOf (.ref ea)) (.ref (ad.cls c)):=by
  obtain⟨oe,vs,_,_,_,he,⟨hc,_⟩,hd,_⟩:=fly2.2.2.2
  exact hc▸(Looks.ld he).andThen .now
 refine(exm_one (K:=X.K) J2.kIn LT hx).at ?_
 show codeAny _ _ _ _ _
 refine codeAny_handlers_suite_as ?_
 refine lands_againW fly2 fun h3 fly3 up3=> ?_
 have J3:=inv h3 fly3.1 (up12.trans up3)
 have exat:jL h3 ea (ad.cls c):=by
  obtain⟨oe,vs,_,_,_,he,⟨hc,_⟩,hd,_⟩:=fly3.2.2.2
  exact⟨oe,vs,he,hc,hd⟩
 have J4:Inv X pins σ (upd H' ea (yZ (ad.cls c) ea)) { s' with heap:=h3 }:=by
  refine J3.track ne ?_ (fun z=> ?_) (fun y d hd z=> ?_) (fun p hp z=> ?_) ?_
  ·cases e:X.s₀.heap.get? ea with
   | none=>rfl
   | some o=>
    obtain⟨o',e1⟩:=I.base.there ea o e (by rw [F0.ex];simp)
    rw [new0] at e1
    cases e1
  ·obtain⟨m,hn,_⟩:=I.loc
   obtain⟨o,_,_,ho',_⟩:=hn
   rw [<-z,new0] at ho'
   cases ho'
  ·obtain⟨v,o,ho',_⟩:=I.cell y d hd
   rw [z,new0] at ho'
   cases ho'
  ·obtain⟨ho',_⟩:=I.pin p hp
   rw [z,new0] at ho'
   cases ho'
  ·obtain⟨oe,vs,he,hc,hd⟩:=exat
   refine⟨⟨oe,vs,he,hc,hd⟩,⟨oe,he⟩, ?_⟩
   rintro ha hb ⟨o1,v1,e1,e2,e3⟩ k
   exact⟨o1,v1,k _ e1,e2,e3⟩
 -- e = the exception
 refine eS J4 hN hi (.inl hil) (v:= .ref ea) rfl (fun s5 J5=> ?_) (.inr hil)
 have hlt:i<σ.length:=by rw [J4.len];exact(ay.mp hi).1
 have he5:(σ.set i (some (.ref ea)))[i]? =some (some (V.ref ea)):=bn hlt
 obtain⟨G,sG,rG,hq⟩:=hGe
 -- the suite
 refine wpAny_mono (jG (kG (x5 (X:=qX X (X.A.mark (some (.ref ea))) _) (i:=i) (ea:=ea) hi (.inl hil) hde hic hgx hmx hdx hkx hfx hbx (hrq _) rfl rfl)) pins s5 (σ.set i (some (.ref ea))) _ ⟨fun _ _=>False,fun v H1=>D'.rt v H1,fun _ _=>False,fun _ _=>False⟩ (aH5 rfl J5) ⟨he5,G,[.exc c],sG, ?_,rfl,hq⟩) (fun fl s6 hs=> ?_) fun _ _ h=>h
 ·unfold aE
  exact⟨.ref ea,[],rfl,rG,by unfold aE;rfl⟩
 ·cases fl with
  | next=>obtain⟨_,_,_,z⟩:=hs;exact z.elim
  | brk=>obtain⟨_,_,_,z⟩:=hs;exact z.elim
  | cont=>obtain⟨_,_,_,z⟩:=hs;exact z.elim
  | ret u=>
   obtain⟨v,σ6,H6,J6',r6,q6⟩:=hs
   have J6:Inv X pins σ6 H6 s6:=aH6 J4.ok J6'
   have hlt6:i<σ6.length:=by rw [J6.len];exact(ay.mp hi).1
   show wpAny _ _ (do bindName X.env en .none;unbindBehindTheSuite X.env en hp') _ _ s6
   refine ae (wpAny_bindName (eS J6 hN hi (.inl hil) (v:= .non) rfl (fun s7 J7=> ?_) (.inr hil)))
   unfold unbindBehindTheSuite
   refine wpAny_onRaise (wX J7 hN hi hil (v:= .non) (bn hlt6) fun s8 J8=> ?_)
   exact⟨v,_,_,J8,r6,q6⟩
end
noncomputable def qU (F:Fn):R->R
 | .ok d=> .ok d
 | .ow xs=> .ow xs
 | .ex c=>match F [.exc c] with
  | .ok d=> .ok d
  | .ow xs=> .ow xs
  | _=> .bad
 | .bad=> .bad
def aK4 (P:Program) (w:World) (K:PySem.W.Frag) (mg:Str->Option Value) (base:Heap) (ad:Ad) (k:Nat) (s:Shared) (G H:Hp) (a:Addr) (r:R):Prop:=
 ∀ (A:Around) (outer:List PySem.Env) (s1:Shared) (Q:VK) (E:XK),Room k A->Env0 P w K mg base A outer s1 H->(∀ b o,s.heap.get? b=some o->s1.heap.get? b=some o)->
  RK K ad G H r Q (fun c H'=>E (.ref (ad.cls c)) none H')->codeAny (model P w) A (.call (.ref a) ⟨[],[]⟩) (CR (CXe P w) outer P w H s1 Q E) s1
section
variable {P:Program} {w:World} {K:PySem.W.Frag} {mg:Str->Option Value} {base:Heap} {ad:Ad} {k kf:Nat} {f fa a:Addr} {name qual:Str} {params:Arguments} {scope:Scope} {dV kV doc pm cdv ct oc:Value} {an od:Option Addr}
  {osl:Array (Option Value)} {N ps:List Str} {dn en x cx q1:Str} {cp xp ep ap hp' rq np dp rp tp:Pos} {F:Fn} {fd:FuncData} {A:Around} {outer:List PySem.Env} {s:Shared} {G H:Hp} {Q:VK} {E:XK} {args:Args} {r:R}
noncomputable def gH (dn en x cx:Str) (cp xp ep ap hp' rq np dp rp tp:Pos):Stmt:=
 .Try [.Return (some (.Call (.Name dn np) [] [] dp)) rp] [.ExceptHandler (some (.Name cx cp)) (some en) [.Return (some (.Call (.Name x xp) [.Name en ep] [] ap)) rq] hp'] [] [] tp
theorem x6 (lk:K.lookup f=some ⟨oc,od, .func (PySem.W.fnOf name qual params [gH dn en x cx cp xp ep ap hp' rq np dp rp tp] scope dV kV doc pm an cdv ct),osl⟩) (hcd:PySem.W.codeIn K cdv qual=true) (S:FnScope N [dn] scope)
  (h0:N[0]? =some dn) (h1:N[1]? =some en) (hdl:scope.names.lookup dn=some .local) (hel:scope.names.lookup en=some .local) (hdd:(dn==("__debug__":Str))=false) (hdk:(dn==("__classdict__":Str))=false) (hed:(en==("__debug__":Str))=false) (hek:(en==("__classdict__":Str))=false)
  (hmx:mg x=some (.ref fa)) (hdx:(x==("__debug__":Str))=false) (hkx:PySem.W.keepIn K (.ref fa)=true)
  (hfx:FnOkQ P w K mg base (CXe P w) kf fa fd [q1] (qD K ad 1 F)) (hbx:dB K fd [q1] []) (hkf:kf<=k) (hmc:mg cx=some (.ref (ad.cls 0))) (hcb:(cx==("__debug__":Str))=false) (hx: ∀ c,exmOne K (.ref (ad.cls c)) (.ref (ad.cls 0))=some true)
  (hglx: ∀ X:Cx,X.env.scope=scope->L2.Gl X x) (hglc: ∀ X:Cx,X.env.scope=scope->L2.Gl X cx)
  (hr:Room (k+1) A) (e0:Env0 P w K mg base A outer s H) (hb:BindsTo s (PySem.W.fnOf name qual params [gH dn en x cx cp xp ep ap hp' rq np dp rp tp] scope dV kV doc pm an cdv ct) args [(dn, .ref a)]) (hfn:PySem.W.FnAt a s.heap)
  (hdeed:aK4 P w K mg base ad k s G H a r) (hG:Same G H) (hq:RK K ad G H (qU F r) Q fun _ _=>False):
  codeAny (model P w) A (.call (.ref f) args) (CR (CXe P w) outer P w H s Q E) s:=by
 have KX:K.In s.heap:=e0.mod.kin.keeps fun b o e=>(e0.bs b o e).1
 have lim:s.heap.NoLimit:=e0.mod.nolimit.keeps fun b o e=>(e0.bs b o e).1
 have hkind: ∀ y∈[(dn,Value.ref a)],scope.names.lookup y.1=some .local\/(scope.names.lookup y.1=some .cell/\((cellsFrom (s.heap.objs.size+1) scope.names []).lookup y.1).isSome=true):=fun y hy=>by
  rw [List.mem_singleton.mp hy]
  exact .inl hdl
 refine codeAny_call_function hr.depth (KX _ _ lk) rfl S.co S.gen rfl (PySem.W.codeRec_of KX hcd) (hb _ _ _ _ ?_)
 refine wpAny_newFunctionEnv_cells S.kind hkind fun env he s1 y=> ?_
 subst he
 refine⟨lim.keeps y.toInCall.keep,codeAny_func ?_⟩
 let X:=kU (CXe P w) P w K mg base N qual scope f cdv A outer s H E
 have I:Inv X [] (start N [.ref a]) H s1:=eT (vs:=[.ref a]) (us:=[.ref a]) (ps:=[dn]) S hr.hd e0 rfl (.cons rfl .nil) y
 have hk:=y.toInCall.keep
 let D':Ends:={ nx:=fun _ H'=>Q .non H',rt:=Q }
 have main:wpAny (model P w) X.A (execs [gH dn en x cx cp xp ep ap hp' rq np dp rp tp] X.env) (SP X [] D') X.xe s1:=by
  let hd:ExceptHandler:= .ExceptHandler (some (.Name cx cp)) (some en) [.Return (some (.Call (.Name x xp) [.Name en ep] [] ap)) rq] hp'
  have I':Inv (tX X [] D' hd) [] (start N [.ref a]) H s1:=aKi I
  refine wpAny_execs_cons (L2.thn (Q:=SP X [] D') (wpAny_Try_except ?_) fun fl s2 hs=> ?_)
  ·show wpAny (model P w) (tX X [] D' hd).A (execs _ (tX X [] D' hd).env) _ (tX X [] D' hd).xe s1
   refine wpAny_execs_cons (wpAny_Return_some (wpAny_Call_Name_kw ?_))
   obtain⟨m5,hn5,hl5⟩:=I.loc
   obtain⟨u5,r5,l5⟩:=hl5 0 dn (.ref a) h0 rfl (.inl hdl)
   cases (show u5=Value.ref a from r5)
   have hm5:m5 dn=some (.ref a):=by
    have hk:X.env.kindOf dn=some .local:=hdl
    rcases l5 with ⟨_,e⟩ | ⟨k,_⟩
    ·exact e
    ·rcases k with k | k<;>(rw [hk] at k;cases k)
   refine wpAny_Name (wpAny_loadName_local I.ok.kind hdl hn5 hm5 ?_) hdd
   have hfn1:PySem.W.FnAt a s1.heap:=by
    obtain⟨oc,od,fd,sl,e⟩:=hfn
    exact⟨oc,od,fd,sl,hk _ _ e⟩
   refine PySem.W.callWith_F0 hfn1 (wpAny_call ?_)
   refine codeAny_mono (hdeed (tX X [] D' hd).A (tX X [] D' hd).stack s1 Q (xk ad fun c H'=>r= .ex c/\ ∃ G',Step G H G' H') (hr.deeper _) I'.env0 hk ?_) fun res s2 hres=> ?_
   ·cases r with
    | ok d=>exact hq
    | ow xs=>exact hq
    | ex c=>exact fun G' H' st=>⟨c,rfl,rfl,G',st⟩
    | bad=>exact hq
   ·cases res with
    | error e=>
     obtain⟨ea,cls,a0,H',B,rfl,ho,hgn,fly,un,hok,ne,c8,c9,c,rfl,rc,G',st⟩:=hres
     subst rc
     have st2:Step G' H' (upd G' ea (yZ (ad.cls c) ea)) (upd H' ea (yZ (ad.cls c) ea)):=Step.new st.gh ne
     refine qR (X:=X) (i:=1) (kf:=kf) (fa:=fa) (F:=F) (fd:=fd) (q1:=q1) ⟨rfl,rfl,rfl⟩ S.nd h1 hel hek (hglx X rfl) hmx hdx hkx hfx hbx (fun v=>⟨?_, ?_⟩) (hglc X rfl) hmc hcb hed (hx c) I ho hgn fly un hok ne c8 c9 ⟨upd G' ea (yZ (ad.cls c) ea),(st.trans st2).gh, ?_, ?_⟩
     ·have:=(hr.deeper X.env).dp
      show X.A.depth+3 * kf+5<_
      have e:X.A=A.deeper X.env:=rfl
      rw [e]
      omega
     ·have:=(hr.deeper X.env).un
      show X.A.units+16 * kf+200<_
      have e:X.A=A.deeper X.env:=rfl
      rw [e]
      omega
     ·unfold Rep
      exact⟨ea,rfl,aC⟩
     ·have hq2:RK K ad _ _ (match F [.exc c] with | .ok d=> .ok d | .ow xs=> .ow xs | _=> .bad) Q fun _ _=>False:=RK.step hq (st.trans st2)
      cases e:F [.exc c] with
      | ok d=>rw [e] at hq2;exact hq2
      | ow xs=>rw [e] at hq2;exact hq2
      | ex c'=>rw [e] at hq2;exact hq2.elim
      | bad=>rw [e] at hq2;exact hq2.elim
    | ok fl=>
     cases fl with
     | next=>exact ba hres
     | brk=>exact ba hres
     | cont=>exact ba hres
     | ret u=>
      obtain⟨v,H',J,rv,q⟩:=Inv.after I' hres
      exact⟨v,_,H',aGz J,rv,q⟩
  ·cases fl with
   | next=>exact wpAny_execs_nil hs
   | brk=>exact hs
   | cont=>exact hs
   | ret u=>exact hs
 refine wpAny_mono main (fun fl s' hs=> ?_) fun e s' hs=>hs
 have fin: ∀ {σ':St} {H':Hp} {v:V} {u:Value},Inv X [] σ' H' s'->aP v u->Q v H'->CE outer P w H s Q u s':=
  fun {σ' H' v u} J rv q=>⟨v,H',J.os,J.bare,J.base,J.hok,rv,q⟩
 cases fl with
 | ret u=>
  obtain⟨v,σ',H',J,rv,q⟩:=hs
  exact fin J rv q
 | next=>
  obtain⟨σ',H',J,q⟩:=hs
  exact fin (v:=V.non) (u:=Value.none) J rfl q
 | brk=>
  obtain⟨_,_,_,q⟩:=hs
  exact ba q
 | cont=>
  obtain⟨_,_,_,q⟩:=hs
  exact ba q
end
noncomputable def uZ:Option SK.Gl->Bool
 | some (.py .isin)=>true
 | _=>false
theorem u6 {g:Option SK.Gl} (h:uZ g=true):g=some (.py .isin):=by
 unfold uZ at h
 split at h
 ·rfl
 ·cases h
noncomputable def qL (C:SK.Ctx):Expr->Option F
 | .Name x _=>(loc C x).map aW
 | _=>none
noncomputable def qE:Nat->SK.Ctx->Expr->Option F
 | 0,_,_=>none
 | n+1,C,e=>match e with
  | .Name x _=>(loc C x).map aD
  | .Constant c _ _=>(kD c).map rK
  | .BinOp a op b _=>(qE n C a).bind fun f=>(qE n C b).map fun g=>bD op f g
  | .List es _=>if es.length<=1000 then(cV (qE n C) es).map cJ else none
  | .Subscript a b _=>(qL C a).bind fun f=>(qE n C b).map fun g=>rIx f g
  | .Call f as kws cp=>if kws.isEmpty then(match f with
   | .Name x _=>if uZ (glo C x) then(two as).bind fun(a,t)=>(bP t).bind fun(tn,_)=>(qE n C a).bind fun fa=>(glo C tn).bind fun g=>(isP g).map fun P=>rIs P fa else none
   | .Attribute o m ap=>(one as).bind fun a=>if(ap.endLine==cp.line)=true then(qL C o).bind fun f=>(qE n C a).bind fun g=>if m="count" then some (jI lG f g) else if m="index" then some (jI lI f g) else none else none
   | _=>none) else none
  | _=>none
noncomputable def qT:Nat->SK.Ctx->Expr->Option F
 | 0,_,_=>none
 | n+1,C,e=>match e with
  | .BoolOp .Or [a,b] _=>(qT n C a).bind fun f=>(qT n C b).map fun g=>rOr f g
  | .UnaryOp .Not a _=>(qT n C a).map qB
  | .Compare a [op] [b] _=>(qE n C a).bind fun f=>(qE n C b).map fun g=>dQ op f g
  | .Call f as kws cp=>qE n C (.Call f as kws cp)
  | _=>none
mutual
noncomputable def qS:Nat->SK.Ctx->Stmt->Option FS
 | 0,_,_=>none
 | n+1,C,st=>match st with
  | .Assign [.Name x _] e _=>(loc C x).bind fun i=>(qE n C e).map fun f=>mH i f
  | .If c a b _=>(qT n C c).bind fun f=>(qSs n C a).bind fun g=>(qSs n C b).map fun h=>sIf f g h
  | .Return (some e) _=>(qE n C e).map cU
  | _=>none
noncomputable def qSs:Nat->SK.Ctx->List Stmt->Option FS
 | 0,_,_=>none
 | n+1,C,l=>match l with
  | []=>some aX
  | st::r=>(qS n C st).bind fun g=>(qSs n C r).map fun h=>bE g h
end
structure QOk (X:Cx) (ad:Ad) (C:SK.Ctx):Prop where
 nd:X.N.Nodup
 vis: ∀ x i,loc C x=some i->X.N[i]? =some x/\Vis X.env.scope x/\(x==("__debug__":Str))=false/\(x==("__classdict__":Str))=false
 nm: ∀ x i,loc C x=some i->aGu X x i
 isn: ∀ x,glo C x=some (.py .isin)->x="isinstance"/\L2.Gl X "isinstance"/\X.mg "isinstance"=none
 cls: ∀ t g P,glo C t=some g->isP g=some P-> ∃ cv,ClNm X t cv/\aKj X ad cv P
 un:X.A.units+62<cLine
 exc: ∀ c,ExcCls X.K (ad.cls c)
section
variable {X X0:Cx} {ad:Ad} {C:SK.Ctx} {A:Around} {Ex:Value->Shared->Prop}
theorem aH7 (O:StOk X0 ad C) (hu:A.units+62<cLine):QOk (qX X0 A Ex) ad C:=by
 refine⟨O.cx.nd,O.cx.vis,fun x i h=>O.nm h,fun x h=> ?_,fun t g P h e=> ?_,hu,O.cx.exc⟩
 ·obtain⟨g1,g2,g3,g4⟩:=O.cx.gl h
  cases (show x="isinstance" from g3)
  exact⟨rfl,g1,g4⟩
 ·obtain⟨cv,c,k⟩:=zL O.cx h e
  refine⟨cv, ?_,k⟩
  cases c with
  | blt T e g m b n d=>exact .blt T e g m b n d
  | own C e g m d=>exact .own C e g m d
theorem aH8 (O:QOk X ad C) {e:Expr} {f:F} (h:qL C e=some f):ML X ad e f/\ ∃ x p,e= .Name x p:=by
 unfold qL at h
 split at h
 ·rename_i x p
  obtain⟨i,e1,rfl⟩:=zMd h
  obtain⟨v1,v2,v3,v4⟩:=O.vis x i e1
  exact⟨sD v1 v2 v3 v4,x,p,rfl⟩
 ·cases h
theorem eQ {n:Nat} {e:Expr} {f:F} (h:qE n C e=some f):iT e/\iG e/\(∀ a b c d,e≠ .Slice a b c d)/\ ∀ a b c d,e≠ .ListComp a b c d:=by
 cases n with
 | zero=>cases h
 | succ n=>cases e<;>first | (cases h;done) | exact⟨trivial,trivial,(fun _ _ _ _ z=>nomatch z),(fun _ _ _ _ z=>nomatch z)⟩
theorem aAe {n:Nat} (hE: ∀ e f,qE n C e=some f->ME X ad e f): ∀ {es:List Expr} {fs:List F},cV (qE n C) es=some fs->MA X ad es fs
 | [],fs,h=>by
  cases h
  exact sC
 | e::es,fs,h=>by
  unfold cV at h
  cases e1:qE n C e with
  | none=>rw [e1] at h;cases h
  | some f=>
   rw [e1] at h
   obtain⟨r,h1,h2⟩:=zMd h
   subst h2
   exact jO (hE e f e1) (aAe hE h1) (aJ (eQ e1).1)
theorem qV (O:QOk X ad C): ∀ (n:Nat) (e:Expr) (f:F),qE n C e=some f->ME X ad e f
 | 0,_,_,h=>by cases h
 | n+1,e,f,h=>by
  have hE:=qV O n
  unfold qE at h
  split at h
  ·rename_i x p
   obtain⟨i,e1,rfl⟩:=zMd h
   obtain⟨v1,v2,v3,v4⟩:=O.vis x i e1
   exact oI v1 v2 v3 v4
  ·obtain⟨d,h1,rfl⟩:=zMd h
   exact oJ h1
  ·obtain⟨fa,h1,h⟩:=zBd h
   obtain⟨fb,h2,rfl⟩:=zMd h
   exact y6 (hE _ fa h1) (hE _ fb h2)
  ·split at h
   ·rename_i hl
    obtain⟨fs,h1,rfl⟩:=zMd h
    exact zD (aAe hE h1) (by rw [dM h1];exact hl)
   ·cases h
  ·obtain⟨fa,h1,h⟩:=zBd h
   obtain⟨fb,h2,rfl⟩:=zMd h
   exact aGk (aH8 O h1).1.lk (hE _ fb h2) (j0 (eQ h2).2.2.1)
  ·rename_i fe as kws cp
   split at h
   ·rename_i hk
    cases List.isEmpty_iff.mp hk
    split at h
    ·rename_i x p
     split at h
     ·rename_i hi
      obtain⟨rfl,g1,g2⟩:=O.isn x (u6 hi)
      have hx:=zBd h
      clear h
      obtain⟨⟨a,t⟩,h0,h⟩:=hx
      cases uI h0
      have hx:=zBd h
      clear h
      obtain⟨⟨tn,tp⟩,hv,h⟩:=hx
      cases aQ hv
      obtain⟨fa,h1,h⟩:=zBd h
      obtain⟨g,h2,h⟩:=zBd h
      obtain⟨P,h3,rfl⟩:=zMd h
      obtain⟨cv,c1,c2⟩:=O.cls tn g P h2 h3
      exact tF O.exc g1 g2 c1 c2 (hE _ fa h1) (aJ (eQ h1).1)
     ·cases h
    ·rename_i o m ap
     have hx:=zBd h
     clear h
     obtain⟨a,h0,h⟩:=hx
     cases bR h0
     split at h
     ·rename_i hl
      have hx:=zBd h
      clear h
      obtain⟨fo,h1,h⟩:=hx
      have hx:=zBd h
      clear h
      obtain⟨fa,h2,h⟩:=hx
      obtain⟨ho,x,p,rfl⟩:=aH8 O h1
      split at h
      ·rename_i hm
       cases h
       subst hm
       exact oY O.un ho (hE _ fa h2) (aJ (eQ h2).1) rfl hl
      ·split at h
       ·rename_i hm
        cases h
        subst hm
        exact oZ O.un ho (hE _ fa h2) (aJ (eQ h2).1) rfl hl
       ·cases h
     ·cases h
    ·cases h
   ·cases h
  ·cases h
theorem aH9 (O:QOk X ad C): ∀ (n:Nat) (e:Expr) (f:F),qT n C e=some f->MT X ad e f
 | 0,_,_,h=>by cases h
 | n+1,e,f,h=>by
  have hT:=aH9 O n
  unfold qT at h
  split at h
  ·obtain⟨fa,h1,h⟩:=zBd h
   obtain⟨fb,h2,rfl⟩:=zMd h
   exact uL (aBp (hT _ fa h1) (sA (hT _ fb h2)))
  ·obtain⟨fa,h1,rfl⟩:=zMd h
   exact zB (hT _ fa h1)
  ·obtain⟨fa,h1,h⟩:=zBd h
   obtain⟨fb,h2,rfl⟩:=zMd h
   exact aGi O.un (qV O n _ fa h1) (qV O n _ fb h2) (bK (eQ h2).2.1)
  ·exact zA (qV O n _ _ h) (fun _=>rfl)
  ·cases h
theorem aIa (O:QOk X ad C) {Z:(St->Nat->Hp->Prop)->Prop}: ∀ n:Nat,(∀ st g,qS n C st=some g->MS X ad Z st g)/\ ∀ l g,qSs n C l=some g->MSs X ad Z l g
 | 0=>⟨(fun _ _ h=>by cases h),(fun _ _ h=>by cases h)⟩
 | n+1=>by
  obtain⟨hS,hSs⟩:=aIa O (Z:=Z) n
  refine⟨fun st g h=> ?_,fun l g h=> ?_⟩
  ·unfold qS at h
   split at h
   ·rename_i x p e pos
    obtain⟨i,h1,h⟩:=zBd h
    obtain⟨f,h2,rfl⟩:=zMd h
    have nm:=O.nm x i h1
    refine uP (kH O.nd nm.1 nm.2.1 (qV O n _ f h2) ?_ nm.2.2)
    have nf:=(eQ h2).2.2.2
    cases e<;>first | rfl | exact absurd rfl (nf _ _ _ _) | (cases n<;>cases h2;done)
   ·obtain⟨f,h1,h⟩:=zBd h
    obtain⟨ga,h2,h⟩:=zBd h
    obtain⟨gb,h3,rfl⟩:=zMd h
    exact aGr (aH9 O n _ f h1) (hSs _ ga h2) (hSs _ gb h3)
   ·obtain⟨f,h1,rfl⟩:=zMd h
    exact oV (qV O n _ f h1)
   ·cases h
  ·unfold qSs at h
   split at h
   ·cases h
    exact nE
   ·obtain⟨ga,h1,h⟩:=zBd h
    obtain⟨gb,h2,rfl⟩:=zMd h
    exact oU (hS _ ga h1) (hSs _ gb h2)
end
noncomputable def aIb:R->R
 | .ex _=> .bad
 | r=>r
noncomputable def qFn (tab:List (Str×SK.Gl)) (st:Stmt):Option (Nat×Fn):=match st with
 | .FunctionDef _ as b _ _ _ sc _ _ _=>(cR as).bind fun ps=>if bI (aB sc) ps sc then(qSs 100 ⟨tab,[],sc,aB sc,[]⟩ b).map fun g=>(ps.length,fun ds=>aIb (SK.fnOf (aB sc).length g ds)) else none
 | _=>none
noncomputable def quiet (A:Around):Around:={ A with handled:=none }
theorem RoomQ.room {k:Nat} {A:Around} (r:RoomQ k A):Room k (quiet A):=⟨rfl,r.dp,r.un⟩
theorem RoomQ.deeper {k:Nat} {A:Around} (r:RoomQ (k+1) A) (env:PySem.Env):RoomQ k (A.deeper env):=
 ⟨by have:=r.dp;show A.depth+1+3 * k+5<_;omega,by have:=r.un;show A.units+3+16 * k+200<_;omega⟩
section
variable {P:Program} {w:World} {K:Frag} {mg:Str->Option Value} {base:Heap} {ad:Ad} {k:Nat} {tab:List (Str×SK.Gl)}
theorem aDo {x qual:Str} {st:Stmt} {f:Addr} {fd:FuncData} {n:Nat} {F:Fn} {ps:List Str} (B:ExcK K ad) (TB:cT P w K mg base ad k tab) (Fu:Fun K x qual st f fd) (hps:cR (defArgs st)=some ps)
  (hd:qFn tab st=some (n,F)):FnOkQ P w K mg base (CXe P w) (k+1) f fd ps (qD K ad n F):=by
 obtain⟨oc,od,kV,doc,pm,an,cdv,ct,osl,rfl,lk,hcd⟩:=Fu.ex
 cases st with
 | FunctionDef nm as b dl re tp sc ts bi pos=>
  have hd':((cR as).bind fun Ps=>if bI (aB sc) Ps sc then(qSs 100 ⟨tab,[],sc,aB sc,[]⟩ b).map fun g=>(Ps.length,fun ds=>aIb (SK.fnOf (aB sc).length g ds)) else none)=some (n,F):=hd
  have hps':cR as=some ps:=hps
  rw [hps'] at hd'
  have hd2:(if bI (aB sc) ps sc then(qSs 100 ⟨tab,[],sc,aB sc,[]⟩ b).map fun g=>(ps.length,fun ds=>aIb (SK.fnOf (aB sc).length g ds)) else none)=some (n,F):=hd'
  by_cases hs:bI (aB sc) ps sc=true
  ·rw [if_pos hs] at hd2
   obtain⟨g,hg,e⟩:=zMd hd2
   cases e
   obtain⟨S,nm⟩:=bW hs
   refine⟨fun vs H Q E ⟨G,ds,_,r,hl,_⟩=>by rw [r.length,hl],fun A outer s H args us vs Q E hr e0 hb r hsp=> ?_⟩
   have hl:vs.length=ps.length:=by obtain⟨G,ds,_,r,hl,_⟩:=hsp;rw [r.length,hl]
   have KX:K.In s.heap:=e0.mod.kin.keeps fun b o e=>(e0.bs b o e).1
   have lim:s.heap.NoLimit:=e0.mod.nolimit.keeps fun b o e=>(e0.bs b o e).1
   have hkind: ∀ y∈ps.zip us,sc.names.lookup y.1=some .local\/(sc.names.lookup y.1=some .cell/\((cellsFrom (s.heap.objs.size+1) sc.names []).lookup y.1).isSome=true):=fun⟨n,v⟩ hy=>by
    rcases S.par n (List.of_mem_zip hy).1 with q | q
    ·exact .inl q
    ·exact .inr ⟨q,PySem.W.cellsFrom_some _ _ _ (.inl q)⟩
   have hdep:A.depth<recursionLimit:=by have:=hr.dp;omega
   refine codeAny_call_function hdep (KX _ _ lk) rfl S.co S.gen rfl (PySem.W.codeRec_of KX hcd) (hb _ _ _ _ ?_)
   refine wpAny_newFunctionEnv_cells S.kind hkind fun env he s1 y=> ?_
   subst he
   refine⟨lim.keeps y.toInCall.keep,codeAny_func ?_⟩
   have e1:Env0 P w K mg base (quiet A) outer s H:=⟨e0.frames,e0.mod,e0.bs,e0.bsz,e0.funs,e0.frf,e0.hok,e0.bare⟩
   let X0:=kU (CXe P w) P w K mg base (aB sc) qual sc f cdv (quiet A) outer s H E
   have I0:Inv X0 [] (L2.start (aB sc) vs) H s1:=eT S rfl e1 hl r y
   let X:=qX X0 (A.deeper (envOfC qual sc s.heap.objs.size f cdv)) (fun e s'=>wpAny (model P w) (A.deeper (envOfC qual sc s.heap.objs.size f cdv)) (leaving (envOfC qual sc s.heap.objs.size f cdv) e) (fun _ s''=>CXe P w outer H s E e s'') (fun e' s''=>CXe P w outer H s E e' s'') s')
   have I:Inv X [] (L2.start (aB sc) vs) H s1:=aH5 rfl I0
   have hr2:Room k X0.A:=(hr.deeper _).room
   let C:SK.Ctx:=⟨tab,[],sc,aB sc,[]⟩
   have vis: ∀ x i,loc C x=some i->(aB sc)[i]? =some x/\Loc sc x/\x∈aB sc:=fun x i e=>by
    obtain⟨e1,e2⟩:=fN e
    refine⟨dC e1, ?_,fM e1⟩
    rcases e2 with e2 | e2 | e2
    ·exact .inl e2
    ·exact .inr e2
    ·exact absurd rfl (S.nofree _ (bY e2))
   have O:StOk X0 ad C:=by
    refine⟨⟨rfl,S.nd,fun x i e=> ?_,fun x e=>e,fun x g e=> ?_,fun x i e=> ?_,rfl, ?_,hr2.hd,B.exc,B.kin,B.kve,fun j m F' e=>by cases e⟩,fun _=>rfl,rfl,fun x i e=>(vis x i e).2.1,B.exm,B.exi⟩
    ·obtain⟨a,b,c⟩:=vis x i e
     exact⟨a,b.elim .inl fun z=> .inr (.inl z),(nm x c).1,(nm x c).2⟩
    ·obtain⟨a,b⟩:=TB x g e
     refine⟨a, ?_⟩
     cases g with
     | fn j m F'=>
      obtain⟨r',f',h1,h2,h3,h4,h5⟩:=b
      exact⟨r',f',⟨h2,h3,h4⟩,hr2.mono h1,h5⟩
     | exc c=>exact b
     | verr=>exact b
     | val d=>exact b
     | py p=>exact b
     | cls A ms=>exact⟨b.1,b.2.1,fun m n M hm=>let ⟨no,f,r,fd,ps,h1,h2,h3,h4⟩:=b.2.2 m n M hm;⟨no,f,r,fd,ps,h2,h3,hr2.mono h1,h4⟩⟩
    ·obtain⟨e1,e2⟩:=cD e
     rcases e2 with e2 | e2
     ·exact .inl e2
     ·exact absurd rfl (S.nofree _ (bY e2))
    ·exact Nat.lt_of_le_of_lt (Nat.add_le_add_left (by decide:62<=64) _) hr2.units
   have OQ:QOk X ad C:=aH7 O (Nat.lt_of_le_of_lt (Nat.add_le_add_left (by decide:62<=64) _) hr2.units)
   obtain⟨G,ds,hG,rr,hl',hq⟩:=hsp
   have main:wpAny (model P w) X.A (execs b X.env) (SP X [] { nx:=fun _ H'=>Q .non H',rt:=Q }) X.xe s1:=by
    refine(aIa OQ (Z:=fun _=>True) 100).2 b g hg [] s1 _ H _ I ⟨G,G,ds.map Slot.sh++ao ((aB sc).length - ds.length) .no,fun _ _ _=>False, ?_,⟨fun σ pins H s e s' _ hc=> ?_,trivial⟩, ?_⟩
    ·have:=gG (X:=X) (ad:=ad) (n:=(aB sc).length - ds.length) hG rr
     unfold L2.start
     rw [rr.length]
     exact this
    ·obtain⟨_,_,_,_,_,_,_,_,_,_,_,_,_,_,_,_,z⟩:=hc
     exact z.elim
    ·have hq':RK K ad G H (aIb (match g (ds.map Slot.sh++ao ((aB sc).length - ds.length) .no) with
      | .rt (.ok d)=> .ok d
      | .rt (.ow xs)=> .ow xs
      | .rt _=> .bad
      | .nx _=> .ok .non
      | .ex c _=> .ex c
      | _=> .bad)) Q (fun c H'=>E (.ref (ad.cls c)) none H'):=hq
     cases e:g (ds.map Slot.sh++ao ((aB sc).length - ds.length) .no) with
     | nx ρ=>rw [e] at hq';exact fun σ G' H' S'=>hq' .non G' H' S'.st (by unfold Rep;rfl)
     | bk ρ=>rw [e] at hq';exact hq'.elim
     | ct ρ=>rw [e] at hq';exact hq'.elim
     | ex c ρ=>rw [e] at hq';exact hq'.elim
     | rt r'=>
      rw [e] at hq'
      cases r' with
      | ok d=>exact hq'
      | ow xs=>exact hq'
      | ex c=>exact hq'.elim
      | bad=>exact hq'.elim
   refine wpAny_mono main (fun fl s' hs=> ?_) fun e s' hs=>hs
   have fin: ∀ {σ':St} {H':Hp} {v:V} {u:Value},Inv X [] σ' H' s'->aP v u->Q v H'->CE outer P w H s Q u s':=
    fun {σ' H' v u} J rv q=>⟨v,H',J.os,J.bare,J.base,J.hok,rv,q⟩
   cases fl with
   | ret u=>
    obtain⟨v,σ',H',J,rv,q⟩:=hs
    exact fin J rv q
   | next=>
    obtain⟨σ',H',J,q⟩:=hs
    exact fin (v:=V.non) (u:=Value.none) J rfl q
   | brk=>
    obtain⟨_,_,_,q⟩:=hs
    exact ba q
   | cont=>
    obtain⟨_,_,_,q⟩:=hs
    exact ba q
  ·rw [if_neg hs] at hd2
   cases hd2
 | _=>cases hd
end
structure TbD (P:Addr) (q:Str) (ps0 ps:Array Value) (cs pl:List (Addr×Obj)):Prop where
 tb:Tb P q ps cs
 gr: ∃ more,ps=ps0++more
 nP: ∀ r∈pl,r.1≠P
 dj: ∀ p∈cs, ∀ r∈pl,p.1≠r.1
noncomputable abbrev pnL (P:Addr) (ps:Array Value) (cs pins:List (Addr×Obj)):List (Addr×Obj):=(P,PySem.W.tabObj ps)::(cs++pins)
def SPL (X:Cx) (P:Addr) (q:Str) (ps0:Array Value) (pins:List (Addr×Obj)) (D:Ends) (f:Flow) (s':Shared):Prop:=
 ∃ ps cs,TbD P q ps0 ps cs (X.pn++pins)/\SP X (pnL P ps cs pins) D f s'
def LPS (X:Cx) (P:Addr) (q:Str) (ps0:Array Value) (st:Stmt) (t:TS):Prop:=
 ∀ (pins:List (Addr×Obj)) (ps:Array Value) (cs:List (Addr×Obj)) (s:Shared) (σ:St) (H:Hp) (D:Ends),TbD P q ps0 ps cs (X.pn++pins)->Inv X (pnL P ps cs pins) σ H s->t D σ H->
  wpAny (model X.prog X.w) X.A (exec st X.env) (SPL X P q ps0 pins D) X.xe s
def u7 (X:Cx) (P:Addr) (q:Str) (ps0:Array Value) (st:List Stmt) (t:TS):Prop:=
 ∀ (pins:List (Addr×Obj)) (ps:Array Value) (cs:List (Addr×Obj)) (s:Shared) (σ:St) (H:Hp) (D:Ends),TbD P q ps0 ps cs (X.pn++pins)->Inv X (pnL P ps cs pins) σ H s->t D σ H->
  wpAny (model X.prog X.w) X.A (execs st X.env) (SPL X P q ps0 pins D) X.xe s
section
variable {X:Cx} {P:Addr} {q:Str} {ps0:Array Value} {st:Stmt} {dW:List Stmt} {t u t':TS} {pos:Pos} {ad:Ad} {Z:(St->Nat->Hp->Prop)->Prop} {f:F} {g h:FS}
theorem LPS.imp (a:LPS X P q ps0 st t) (k: ∀ D σ H,t' D σ H->t D σ H):LPS X P q ps0 st t':=fun pins ps cs s σ H D T I w=>a pins ps cs s σ H D T I (k D σ H w)
theorem u7.imp (a:u7 X P q ps0 dW t) (k: ∀ D σ H,t' D σ H->t D σ H):u7 X P q ps0 dW t':=fun pins ps cs s σ H D T I w=>a pins ps cs s σ H D T I (k D σ H w)
theorem aIc (a:PS X st t):LPS X P q ps0 st t:=fun pins ps cs s σ H D T I w=>L2.thn (a _ s σ H D I w) fun f s' hs=>⟨ps,cs,T,hs⟩
theorem aDp (a:PSs X dW t):u7 X P q ps0 dW t:=fun pins ps cs s σ H D T I w=>L2.thn (a _ s σ H D I w) fun f s' hs=>⟨ps,cs,T,hs⟩
theorem u8 (h1:LPS X P q ps0 st t) (h2:u7 X P q ps0 dW u):u7 X P q ps0 (st::dW) (aLj t u):=by
 intro pins ps cs s σ H D T I h
 refine wpAny_execs_cons (L2.thn (h1 pins ps cs s σ H { D with nx:=u D } T I h) fun f s1 hq=> ?_)
 obtain⟨ps1,cs1,T1,hq⟩:=hq
 cases f with
 | next=>
  obtain⟨σ',H',I',hq⟩:=hq
  exact h2 pins ps1 cs1 s1 σ' H' D T1 I' hq
 | ret v=>exact⟨ps1,cs1,T1,hq⟩
 | brk=>exact⟨ps1,cs1,T1,hq⟩
 | cont=>exact⟨ps1,cs1,T1,hq⟩
theorem aDq {iter tg:Expr} {body:List Stmt} {wi:L2.TI} {gg:L2.TG} {tb:TS} (hp:PassesOwn (model X.prog X.w) X.A X.env X.xe) (hc:X.calm=true) (hi:PI X tg iter wi) (hg:PG X tg gg) (hb:u7 X P q ps0 body tb)
  (hs: ∀ x,foldedSetIterable iter X.env x=pure x):LPS X P q ps0 (.For tg iter body [] pos) (aLm wi gg tb):=by
 intro pins ps cs s σ H D T0 I h
 refine wpAny_For (L2.thn (hi _ s σ H _ I h) fun v s1 h1=>L2.thn h1 fun itv s2 h2=> ?_) hs
 obtain⟨it,fp,tn,J,H2,e,I2,T,st2,f2,W,⟨m0,w0⟩,turn⟩:=h2
 subst e
 -- what stays true of the iterator's objects, whatever stands in the table
 have stat: ∀ {H':Hp} {ps':Array Value} {cs':List (Addr×Obj)},(∀ b∈fp,H' b=none)->(∀ b∈fp, ∀ p∈cs',p.1≠b)-> ∀ b∈fp,mO X (pnL P ps' cs' pins) H' b:=fun {H' ps' cs'} hn hd b hb=>by
  obtain⟨_,a1,a2,a3,a4,a5⟩:=f2 b hb
  refine⟨hn b hb,a1,a2,a3,a4,fun p hp=> ?_⟩
  rcases List.mem_append.mp hp with z | z
  ·exact a5 p (List.mem_append_left _ z)
  ·rcases av.mp z with rfl | z
   ·exact a5 (P,PySem.W.tabObj ps) (bt _ (.head _))
   ·rcases List.mem_append.mp z with z | z
    ·exact hd b hb p z
    ·exact a5 p (bt _ (.tail _ (bt _ z)))
 have d0: ∀ b∈fp, ∀ p∈cs,p.1≠b:=fun b hb p hp=>(f2 b hb).2.2.2.2.2 p (bt _ (.tail _ (List.mem_append_left _ hp)))
 have nPb: ∀ b∈fp,P≠b:=fun b hb=>(f2 b hb).2.2.2.2.2 (P,PySem.W.tabObj ps) (bt _ (.head _))
 refine codeAny_forLoop_any (fun n s'=> ∃ i σ' H' ps' cs',TbD P q ps0 ps' cs' (X.pn++pins)/\(∀ b∈fp, ∀ p∈cs',p.1≠b)/\Inv X (pnL P ps' cs' pins) σ' H' s'/\tn i s'.heap/\(∀ b∈fp,H' b=none)/\W i n σ' H') ?_ m0 ⟨0,σ,H2,ps,cs,T0,d0,I2,st2,fun b hb=>(f2 b hb).1,w0⟩
 rintro n s3 ⟨i,σ3,H3,ps3,cs3,T3,d3,I3,st3,fr3,w3⟩
 rcases turn i n σ3 H3 w3 with ⟨stop,qn⟩ | ⟨go,N,hN,step⟩
 ·refine wpAny_passesOwn hp (L2.thn (T.done X rfl rfl rfl hc i _ s3 σ3 H3 X.xe I3 (stat fr3 d3) st3 stop) fun r s4 hz_=> ?_)
  obtain⟨hr,I4⟩:=hz_
  subst hr
  exact wpAny_execs_nil ⟨ps3,cs3,T3,σ3,H3,I4,qn⟩
 ·refine wpAny_passesOwn hp (L2.thn (T.item X rfl rfl rfl hc i _ s3 σ3 H3 X.xe I3 (stat fr3 d3) st3 go) fun r s4 hz_=> ?_)
  obtain⟨u,hr,h4⟩:=hz_
  subst hr
  refine wpAny_passesOwn hp (L2.thn h4 fun _ s5 hz_=> ?_)
  obtain⟨x,H5,I5,r5,y5,st5,fr5⟩:=hz_
  have I5':=I5.pinned (stat fr5 d3) (T.obj _ _ st5)
  refine wpAny_passesOwn hp (L2.thn (hg _ s5 σ3 H5 x u _ I5' r5 (step x H5 y5)) fun _ s6 hz_=> ?_)
  obtain⟨σ6,H6,I6,q6⟩:=hz_
  have ep: ∀ (ps':Array Value) (cs':List (Addr×Obj)),pnL P ps' cs' pins++dO fp s5.heap=pnL P ps' cs' (pins++dO fp s5.heap):=fun ps' cs'=>by
   show _::(cs'++pins++_)=_::(cs'++(pins++_))
   rw [List.append_assoc]
  rw [ep] at I6
  have T6:TbD P q ps0 ps3 cs3 (X.pn++(pins++dO fp s5.heap)):=by
   refine⟨T3.tb,T3.gr,fun r hr=> ?_,fun p hp r hr=> ?_⟩
   ·rw [<-List.append_assoc] at hr
    rcases List.mem_append.mp hr with z | z
    ·exact T3.nP r z
    ·exact(nPb _ (gQ z).1).symm
   ·rw [<-List.append_assoc] at hr
    rcases List.mem_append.mp hr with z | z
    ·exact T3.dj p hp r z
    ·exact d3 _ (gQ z).1 p hp
  refine wpAny_passesOwn hp (L2.thn (hb _ ps3 cs3 s6 σ6 H6 _ T6 I6 q6) fun f s7 q7=> ?_)
  obtain⟨ps7,cs7,T7,q7⟩:=q7
  have T7':TbD P q ps0 ps7 cs7 (X.pn++pins):=by
   refine⟨T7.tb,T7.gr,fun r hr=>T7.nP r ?_,fun p hp r hr=>T7.dj p hp r ?_⟩<;>(rw [<-List.append_assoc];exact List.mem_append_left _ hr)
  have un: ∀ {σ7:St} {H7:Hp},Inv X (pnL P ps7 cs7 (pins++dO fp s5.heap)) σ7 H7 s7->Inv X (pnL P ps7 cs7 pins) σ7 H7 s7:=fun {σ7 H7} I7=>by
   rw [<-ep] at I7
   exact I7.unpinned
  have again: ∀ {σ7:St} {H7:Hp},Inv X (pnL P ps7 cs7 (pins++dO fp s5.heap)) σ7 H7 s7->N σ7 H7-> ∃ m,m<n/\ ∃ i σ' H' ps' cs',TbD P q ps0 ps' cs' (X.pn++pins)/\(∀ b∈fp, ∀ p∈cs',p.1≠b)/\Inv X (pnL P ps' cs' pins) σ' H' s7/\tn i s7.heap/\(∀ b∈fp,H' b=none)/\W i m σ' H':=fun {σ7 H7} I7 n7=>by
   obtain⟨m',hm,w7⟩:=hN σ7 H7 n7
   have inn: ∀ b∈fp, ∀ o,s5.heap.get? b=some o->(b,o)∈X.pn++(pins++dO fp s5.heap):=fun b hb o e=>bt _ (bt _ (cN hb e))
   have pin: ∀ b∈fp, ∀ o,s5.heap.get? b=some o->s7.heap.get? b=some o/\H7 b=none:=fun b hb o e=>by
    have:=I7.pin (b,o) (bt _ (.tail _ (bt _ (bt _ (cN hb e)))))
    exact⟨this.1,this.2.1⟩
   refine⟨m',hm,i+1,σ7,H7,ps7,cs7,T7',fun b hb p hp=> ?_,un I7,T.keep _ _ _ st5 fun b hb o e=>(pin b hb o e).1,fun b hb=> ?_,w7⟩
   ·obtain⟨o,e,d⟩:=T.obj _ _ st5 b hb
    exact T7.dj p hp (b,o) (inn b hb o e)
   ·obtain⟨o,e,d⟩:=T.obj _ _ st5 b hb
    exact(pin b hb o e).2
  cases f with
  | next=>obtain⟨σ7,H7,I7,n7⟩:=q7;exact again I7 n7
  | cont=>obtain⟨σ7,H7,I7,n7⟩:=q7;exact again I7 n7
  | brk=>obtain⟨σ7,H7,I7,q7⟩:=q7;exact⟨ps7,cs7,T7',σ7,H7,un I7,q7⟩
  | ret v=>obtain⟨x7,σ7,H7,I7,r7,q7⟩:=q7;exact⟨ps7,cs7,T7',x7,σ7,H7,un I7,r7,q7⟩
end
def EPL (X:Cx) (P:Addr) (q:Str) (ps0:Array Value) (pins:List (Addr×Obj)) (σ:St) (Q:VK) (u:Value) (s':Shared):Prop:=
 ∃ ps cs,TbD P q ps0 ps cs (X.pn++pins)/\EP X (pnL P ps cs pins) σ Q u s'
noncomputable def aDr:Option SK.Slot->Option SK.Slot
 | some (.sh d)=>some (.sh d)
 | some (.rk C r)=>some (.rk C r)
 | _=>none
noncomputable def aId (cs:List Nat) (ρ:Rho):Option (List SK.Slot):=cV (fun i=>aDr ρ[i]?) cs
noncomputable def cG (T:Fn) (cs:List Nat) (f:SK.F):SK.F:=fun ρ=>match aId cs ρ with
 | some sl=>qU T (f sl)
 | none=> .bad
theorem SL.cons0 {K:PySem.W.Frag} {ad:Ad} {G H:Hp} {ρ:Rho} {σ:St} {s:SK.Slot} {ov:Option V} (h:SL K ad G H ρ σ) (h0:SLi K ad G H s ov):SL K ad G H (s::ρ) (ov::σ):=
 ⟨by simp [h.len],fun i sl e=>by
  cases i with
  | zero=>cases e;exact⟨ov,rfl,h0⟩
  | succ i=>exact h.at_ i sl e⟩
theorem pK {K:PySem.W.Frag} {ad:Ad} {G H:Hp} {ρ:Rho} {σ:St} (hS:SL K ad G H ρ σ): ∀ {cs:List Nat} {sl:List SK.Slot},aId cs ρ=some sl->
  ∃ vs:List V,vs.length=cs.length/\SL K ad G H sl (vs.map some)/\ ∀ (i j:Nat) (v:V),cs[i]? =some j->vs[i]? =some v->σ[j]? =some (some v)
 | [],sl,h=>by
  cases h
  exact⟨[],rfl,⟨rfl,fun i s e=>by cases e⟩,fun i j v h=>by cases h⟩
 | c::cs,sl,h=>by
  unfold aId cV at h
  cases e:ρ[c]? with
  | none=>rw [e] at h;cases h
  | some s0=>
   rw [e] at h
   have key: ∀ (v:V),aDr (some s0)=some s0->σ[c]? =some (some v)->SLi K ad G H s0 (some v)->(cV (fun i=>aDr ρ[i]?) cs).map (s0:: ·)=some sl-> ∃ vs:List V,vs.length=(c::cs).length/\SL K ad G H sl (vs.map some)/\ ∀ (i j:Nat) (v:V),(c::cs)[i]? =some j->vs[i]? =some v->σ[j]? =some (some v):=fun v _ e1 sv h=>by
    obtain⟨r,h1,h2⟩:=zMd h
    subst h2
    obtain⟨vs,l,rp,hv⟩:=pK hS (cs:=cs) (sl:=r) h1
    refine⟨v::vs,by simp [l],rp.cons0 sv,fun i j w hi hw=> ?_⟩
    cases i with
    | zero=>cases hi;cases hw;exact e1
    | succ i=>exact hv i j w hi hw
   cases s0 with
   | sh d=>
    obtain⟨v,e1,rv⟩:=hS.sh e
    exact key v rfl e1 ⟨v,rfl,rv⟩ h
   | rk C r=>
    obtain⟨p,dx,d,l1,l2,e1,rv⟩:=hS.rk e
    exact key (.ref p) rfl e1 ⟨p,dx,d,l1,l2,rfl,rv⟩ h
   | no=>cases h
   | ow xs=>cases h
   | dc xs=>cases h
   | sd xs=>cases h
def pL (P:Program) (w:World) (K:PySem.W.Frag) (mg:Str->Option Value) (base:Heap) (ad:Ad) (k:Nat) (f:Addr) (fd:FuncData) (dn:Str) (F:Fn):Prop:=
 ∀ (A:Around) (outer:List PySem.Env) (s:Shared) (G H:Hp) (a:Addr) (r:R) (Q:VK) (E:XK) (args:Args),Room (k+1) A->Env0 P w K mg base A outer s H->BindsTo s fd args [(dn, .ref a)]->PySem.W.FnAt a s.heap->aK4 P w K mg base ad k s G H a r->Same G H->
  RK K ad G H (qU F r) Q (fun _ _=>False)->codeAny (model P w) A (.call (.ref f) args) (CR (CXe P w) outer P w H s Q E) s
section
variable {X:Cx} {P c ft:Addr} {q tn dn:Str} {ps0 ps:Array Value} {cs pins:List (Addr×Obj)} {σ:St} {G H:Hp} {ρ:Rho} {s:Shared} {params:Arguments} {body:Expr} {sc:Scope} {lp p cp:Pos} {ad:Ad} {k:Nat} {F:Fn} {f:SK.F} {cap:List Nat} {fd:FuncData} {Q:VK}
theorem aDs (hg:L2.Gl X tn) (hm:X.mg tn=some (.ref ft)) (hdb:(tn==("__debug__":Str))=false) (hk:PySem.W.keepIn X.K (.ref ft)=true) (hT:pL X.prog X.w X.K X.mg X.base ad k.succ ft fd dn F) (hr:Room (k+2) X.A)
  (hb: ∀ (s:Shared) (u:Value),X.K.In s.heap->BindsTo s fd ⟨[u],[]⟩ [(dn,u)])
  (hx:P∈X.ex) (hpar:defaultsOf params X.env=([],[])) (hq:X.env.qual++"<lambda>"=q) (hfree: ∀ x,(x,NameKind.free)∈sc.names->X.env.kindOf x=some .cell\/X.env.kindOf x=some .free)
  (hcode:X.env.code= .ref c) (hC:PySem.W.CodeHd s.heap c P) (hB:s.heap.BuiltinsAt X.mg P)
  (S:LamSc (aN sc) sc) (hbind: ∀ cl pm cd ct,bindArgs (PySem.W.kla_fn "<lambda>" q params body sc cl pm cd ct) ⟨[],[]⟩=pure [])
  (hcl:cap.length=(aN sc).length) (hcap: ∀ (i:Nat) (x:Str),(aN sc)[i]? =some x-> ∃ j,cap[i]? =some j/\X.N[j]? =some x/\(X.env.kindOf x=some .cell\/X.env.kindOf x=some .free))
  (hbody: ∀ a cd cl A outer s H E,Room k (A.deeper (aAd q sc s.heap.objs.size a cd cl))->ME (cxL (CXe X.prog X.w) X.prog X.w X.K X.mg X.base (aN sc) q sc a cd cl A outer s H E) ad body f)
  (T:TbD P q ps0 ps cs (X.pn++pins)) (I:Inv X (pnL P ps cs pins) σ H s) (hG:Same G H) (hS:SL X.K ad G H ρ σ) (hrk:RK X.K ad G H (cG F cap f ρ) Q fun _ _=>False):
  wpAny (model X.prog X.w) X.A (eval (.Call (.Name tn p) [.Lambda params body sc lp] [] cp) X.env) (EPL X P q ps0 pins σ Q) X.xe s:=by
 refine wpAny_Call_Name_kw (eM I hg hm ?_ hdb)
 refine PySem.W.callWith_K (h₀:=X.base) I.ok.mod.kin hk ?_ rfl rfl
 refine Calls.spliced_cons (uX I T.tb hx (fun p hp=>T.nP p hp) hpar hq hfree hcode hC hB fun a ps' cs' cv ctv s' I' T' more new hsz hobj hrec ext=>Calls.spliced_nil ⟨I'.kIn, ?_⟩)
 unfold cG at hrk
 cases hcd:aId cap ρ with
 | none=>rw [hcd] at hrk;exact hrk.elim
 | some ds=>
  rw [hcd] at hrk
  have hrk':RK X.K ad G H (qU F (f ds)) Q fun _ _=>False:=hrk
  obtain⟨vs,hvl,rvs,hvv⟩:=pK hS hcd
  have TD:TbD P q ps0 ps' cs' (X.pn++pins):=by
   refine⟨T', ?_,T.nP,fun p hp r hr=> ?_⟩
   ·obtain⟨m1,e1⟩:=T.gr
    obtain⟨m2,e2⟩:=more
    exact⟨m1++m2,by rw [e2,e1,Array.append_assoc]⟩
   ·rcases new p hp with z | z
    ·exact T.dj p z r hr
    ·have hin:r∈X.pn++pnL P ps cs pins:=by
      rcases List.mem_append.mp hr with y | y
      ·exact List.mem_append_left _ y
      ·exact bt _ (.tail _ (bt _ y))
     exact Nat.ne_of_gt (bh (ai (I.pin r hin).1) z)
  have hcl2: ∀ x d,(hJ X.env.cells sc.names []).lookup x=some d->(x,NameKind.free)∈sc.names/\X.env.cells.lookup x=some d:=fun x d e=>by
   rcases fZ e with ⟨k,h1,h2,h3⟩ | h
   ·subst h2
    refine⟨h1, ?_⟩
    obtain⟨c',hc'⟩:=I.ok.has x (hfree x h1)
    rw [hc'] at h3
    rw [h3]
    exact hc'
   ·cases h
  have hhas: ∀ x,sc.names.lookup x=some .free-> ∃ d,(hJ X.env.cells sc.names []).lookup x=some d:=fun x e=>Option.isSome_iff_exists.mp (f8 (cells:=X.env.cells) (acc:=[]) (PySem.mem_of_lookup e))
  have deed:aK4 X.prog X.w X.K X.mg X.base ad k.succ s' G H a (f ds):=by
   intro A outer s1 Q1 E1 hR e0 hkp hr1
   have Tx:DefX (cxL (CXe X.prog X.w) X.prog X.w X.K X.mg X.base (aN sc) q sc a cv (hJ X.env.cells sc.names []) A outer s1 H E1) E1:=⟨rfl,rfl,rfl,fun e s' h=>h⟩
   refine aDn (vs:=vs) S (hkp _ _ hobj) (hrec.keeps hkp) (hbind _ _ _ _) hR e0 (fun x y d h1 h2=>I.ok.inj x y d (hcl2 x d h1).2 (hcl2 y d h2).2) hhas (fun x d h=> ?_) (by rw [hvl,hcl]) (fun i x v h1 h2 h3=> ?_) ⟨_,hbody a cv _ A outer s1 H E1 (hR.deeper _),G,ds,_,hG,rvs,tD Tx,hr1⟩
   ·obtain⟨v,o,ho,hd⟩:=I'.cell x d (hcl2 x d h).2
    exact⟨⟨v,o,hkp _ _ ho,hd⟩,I'.freeC x d (hcl2 x d h).2⟩
   ·obtain⟨j,e1,e2,e3⟩:=hcap i x h1
    have e4:=hvv i j v e1 h2
    obtain⟨m,hn,hl⟩:=I'.loc
    obtain⟨u,ru,lu⟩:=hl j x v e2 e4 (by rcases e3 with z | z<;>first | exact .inr (.inl z) | exact .inr (.inr z))
    rcases lu with ⟨z,_⟩ | ⟨_,d,hd,o,ho,hcel⟩
    ·rcases e3 with y | y<;>(rw [z] at y;cases y)
    ·obtain⟨d',hd'⟩:=hhas x h3
     have:=(hcl2 x d' hd').2
     rw [hd] at this
     cases this
     exact⟨u,d,ru,hd',o,hkp _ _ ho,hcel⟩
  refine wpAny_call (codeAny_mono (hT X.A X.stack s' G H a _ Q (fun _ _ _=>False) ⟨[.ref a],[]⟩ hr I'.env0 (hb s' _ I'.kIn) ⟨_,_,_,_,hobj⟩ deed hG hrk') fun r s2 hq=> ?_)
  cases r with
  | error e=>obtain⟨_,_,_,_,_,_,_,_,_,_,_,_,_,_,z⟩:=hq;exact z.elim
  | ok fl=>
   cases fl with
   | ret u=>exact⟨ps',cs',TD,I'.after hq⟩
   | next=>exact ba hq
   | brk=>exact ba hq
   | cont=>exact ba hq
end
def LPE (X:Cx) (P:Addr) (q:Str) (ps0:Array Value) (e:Expr) (t:TE):Prop:=
 ∀ (pins:List (Addr×Obj)) (ps:Array Value) (cs:List (Addr×Obj)) (s:Shared) (σ:St) (H:Hp) (Q:VK),TbD P q ps0 ps cs (X.pn++pins)->Inv X (pnL P ps cs pins) σ H s->t σ H Q->
  wpAny (model X.prog X.w) X.A (eval e X.env) (EPL X P q ps0 pins σ Q) X.xe s
abbrev LME (X:Cx) (P:Addr) (q:Str) (ps0:Array Value) (ad:Ad) (e:Expr) (f:SK.F):Prop:=LPE X P q ps0 e (tE X ad f)
abbrev LMS (X:Cx) (P:Addr) (q:Str) (ps0:Array Value) (ad:Ad) (Z:(St->Nat->Hp->Prop)->Prop) (st:Stmt) (g:FS):Prop:=LPS X P q ps0 st (tS X ad Z g)
abbrev aDt (X:Cx) (P:Addr) (q:Str) (ps0:Array Value) (ad:Ad) (Z:(St->Nat->Hp->Prop)->Prop) (st:List Stmt) (g:FS):Prop:=u7 X P q ps0 st (tS X ad Z g)
section
variable {X:Cx} {P:Addr} {q:Str} {ps0 ps:Array Value} {cs pins:List (Addr×Obj)} {ad:Ad} {Z:(St->Nat->Hp->Prop)->Prop} {a e:Expr} {f:SK.F} {g h:FS} {st:Stmt} {sts:List Stmt} {pos pos':Pos} {σ:St} {G H:Hp} {ρ:Rho} {s:Shared} {Q:VK} {E:Nat->Hp->Prop}
theorem LPE.thn {k:D->R} (ha:LME X P q ps0 ad a f) (T:TbD P q ps0 ps cs (X.pn++pins)) (I:Inv X (pnL P ps cs pins) σ H s) (hG:Same G H) (hS:SL X.K ad G H ρ σ) (hx:XP X ad σ E) (hr:RK X.K ad G H ((f ρ).bind k) Q E):
  wpAny (model X.prog X.w) X.A (eval a X.env) (fun u s1=> ∃ ps1 cs1 v d G1 H1,TbD P q ps0 ps1 cs1 (X.pn++pins)/\Inv X (pnL P ps1 cs1 pins) σ H1 s1/\aP v u/\Step G H G1 H1/\Rep X.K ad G1 d v/\RK X.K ad G1 H1 (k d) Q E) X.xe s:=by
 cases e:f ρ with
 | ok d=>
  rw [e] at hr
  refine L2.thn (ha pins ps cs s σ H (fun v H1=> ∃ G1,Step G H G1 H1/\Rep X.K ad G1 d v) T I ⟨G,ρ,E,hG,hS,hx,by rw [e];exact fun v G1 H1 st q=>⟨G1,st,q⟩⟩) fun u s1 ⟨ps1,cs1,T1,v,H1,I1,r1,G1,st,q⟩=> ?_
  exact⟨ps1,cs1,v,d,G1,H1,T1,I1,r1,st,q,RK.step hr st⟩
 | ow xs=>
  rw [e] at hr
  refine L2.thn (ha pins ps cs s σ H (fun v H1=> ∃ G1,Step G H G1 H1/\Rep X.K ad G1 (.lst xs) v) T I ⟨G,ρ,E,hG,hS,hx,by rw [e];exact fun p vs G1 H1 st n m e' q=>bB st n m e' q⟩) fun u s1 ⟨ps1,cs1,T1,v,H1,I1,r1,G1,st,q⟩=> ?_
  exact⟨ps1,cs1,v, .lst xs,G1,H1,T1,I1,r1,st,q,RK.step hr st⟩
 | ex c=>
  rw [e] at hr
  refine L2.thn (ha pins ps cs s σ H (fun v H1=>False) T I ⟨G,ρ,E,hG,hS,hx,by rw [e];exact hr⟩) fun u s1 ⟨ps1,cs1,T1,v,H1,I1,r1,q⟩=>q.elim
 | bad=>
  rw [e] at hr
  exact ba hr
theorem x8 (he:LME X P q ps0 ad e f) (hs:starEach [e] X.env=(false,eval e X.env)::starEach [] X.env):LME X P q ps0 ad (.List [e] pos) (cJ [f]):=by
 intro pins ps cs s σ H Q T I ⟨G,ρ,E,hG,hS,hx,hr⟩
 refine wpAny_List_spliced ?_
 rw [hs]
 have hr':RK X.K ad G H ((f ρ).bind fun d=> .ow [d]) Q E:=by
  have e0:cJ [f] ρ=(f ρ).bind fun d=> .ow [d]:=by
   unfold cJ mG args
   cases f ρ<;>rfl
  rwa [e0] at hr
 refine Calls.spliced_cons (L2.thn (he.thn T I hG hS hx hr') fun u s1 ⟨ps1,cs1,v,d,G1,H1,T1,I1,r1,st,r2,k1⟩=>Calls.spliced_nil ⟨(by decide:1<=sizeLine), ?_⟩)
 have hf:H1 s1.heap.objs.size=none:=I1.hok.fresh (ak _)
 refine⟨ps1,cs1,T1, .ref s1.heap.objs.size,upd H1 s1.heap.objs.size (.lst [v]),I1.laid (t':=s1.toks) (fun b u e=>ag _ e) (ak _) ?_,rfl,RK.ow_new k1 st.gh (aE.cons r2 aE.nil) hf⟩
 exact⟨(by decide:1<=sizeLine),[u],0, .cons r1 .nil,ah _ rfl⟩
theorem aDu {i:Nat} {x:Str} (hN:X.N.Nodup) (hi:X.N[i]? =some x) (hx:Loc X.env.scope x) (he:LME X P q ps0 ad e f) (hs:swapsWith e (some (.Name x pos')) pos.line X.env=pure false) (hf:X.fn x=true\/X.env.scope.names.lookup x=some .local):
  LMS X P q ps0 ad Z (.Assign [.Name x pos'] e pos) (vP i f):=by
 intro pins ps cs s σ H D T I ⟨G₀,G,ρ,E,S,hx',hr⟩
 refine wpAny_Assign_Name (L2.thn (he pins ps cs s σ H _ T I (zH S hx' hr)) fun v s1 ⟨ps1,cs1,T1,y,H1,I1,r1,q1⟩=> ?_) hs
 exact eS I1 hN hi hx r1 (fun s2 I2=>⟨ps1,cs1,T1,_,H1,I2,q1⟩) hf
theorem aDv {i:Nat} {x:Str} {p ap cp:Pos} (hN:X.N[i]? =some x) (hv:Vis X.env.scope x) (hd:(x==("__debug__":Str))=false) (hcd:(x==("__classdict__":Str))=false) (he:LME X P q ps0 ad e f) (hs:starEach [e] X.env=(false,eval e X.env)::starEach [] X.env)
  (hline:(ap.endLine==cp.line)=true):LMS X P q ps0 ad Z (.Expr (.Call (.Attribute (.Name x p) "append" ap) [e] [] cp) pos) (iZ i f):=by
 intro pins ps cs s σ H D' T I ⟨G₀,G,ρ,E,S,hx,hr⟩
 unfold iZ at hr
 cases hq:ρ[i]? with
 | none=>rw [hq] at hr;exact hr.elim
 | some sl=>
  rw [hq] at hr
  cases sl with
  | no=>exact hr.elim
  | sh d=>exact hr.elim
  | dc d=>exact hr.elim
  | sd d=>exact hr.elim
  | rk _ _=>exact hr.elim
  | ow xs=>
   obtain⟨a,vs,h1,h2,h3,h4⟩:=S.sl.ow hq
   refine wpAny_Expr_any ?_ I.quiet rfl
   refine wpAny_Call_method_late rfl (d6 hs) hline rfl (L2.thn (aV hN hv hd hcd _ s σ H (fun v H1=>v= .ref a/\H1=H) I ⟨.ref a,h1,rfl,rfl⟩) fun v s1 hz_=> ?_)
   obtain⟨y,H1,I1,r1,rfl,rfl⟩:=hz_
   obtain⟨t1,t2⟩:=rQ I1 r1 (T:="list") (.inl ⟨rfl,vs,SqL.of h3⟩)
   refine⟨"list",_,PySem.F.plainAttrs_list,PySem.F.slot_list_append,PySem.F.type_list_append,t1,t2, ?_⟩
   rw [hs]
   refine Calls.callWith_builtin rfl (Calls.evalArgs_plain (Calls.spliced_cons (L2.thn (he pins ps cs s1 σ H1 (fun v H2=> ∃ d G1,Step G H1 G1 H2/\Rep X.K ad G1 d v/\OKo X ad G₀ (if xs.length<LIM then .nx (ρ.set i (.ow (xs++[d]))) else .rt .bad) D' E) T I1 (eZ S hx hr fun v d G1 H2 st r k=>⟨d,G1,st,r,k⟩)) fun u s2 hz_=>Calls.spliced_nil ?_)))
   obtain⟨ps2,cs2,T2,w,H2,I2,r2,d,G1,st,r,k⟩:=hz_
   obtain⟨g1,h1'⟩:=cL st h2 h3
   by_cases hc:xs.length<LIM
   ·rw [if_pos hc] at k
    have r4:=h4.mono st.sg
    refine L2.thn (eV _ s2 σ H2 (.ref a) [w] v [u] (fun _ H3=>D'.nx σ H3) I2 r1 (.cons r2 .nil) ⟨a,vs,w,rfl,rfl,h1', ?_,k σ G1 _ ((S.step st).upd hq h1 g1 (r4.append (aE.cons r aE.nil)))⟩) fun _ s3 hz_=> ?_
    ·rw [h4.length]
     exact bh hc (by decide)
    ·obtain⟨_,H3,I3,_,q3⟩:=hz_
     exact⟨ps2,cs2,T2,σ,H3,I3,q3⟩
   ·rw [if_neg hc] at k
    exact k.elim
end
section
variable {X:Cx} {P:Addr} {q:Str} {ps0 ps:Array Value} {cs pins:List (Addr×Obj)} {ad:Ad} {Z:(St->Nat->Hp->Prop)->Prop} {a e it tg:Expr} {f:SK.F} {g h:FS} {st:Stmt} {sts body:List Stmt} {pos pos':Pos}
theorem aAf (a:MS X ad Z st g):LMS X P q ps0 ad Z st g:=aIc a
theorem x9:aDt X P q ps0 ad Z [] aX:=aDp nE
theorem u9 (h1:LMS X P q ps0 ad Z st g) (h2:aDt X P q ps0 ad Z sts h):aDt X P q ps0 ad Z (st::sts) (bE g h):=by
 refine u7.imp (u8 h1 h2) ?_
 rintro D' σ H ⟨G₀,G,ρ,E,S,hx,hr⟩
 refine⟨G₀,G,ρ,E,S,hx, ?_⟩
 unfold bE at hr
 cases e:g ρ with
 | nx ρ'=>rw [e] at hr;exact fun σ' G' H' S'=>⟨G₀,G',ρ',E,S',hx,hr⟩
 | bk ρ'=>rw [e] at hr;exact hr
 | ct ρ'=>rw [e] at hr;exact hr
 | ex c ρ'=>rw [e] at hr;exact hr
 | rt r=>
  rw [e] at hr
  cases r<;>exact hr
theorem aDw {k:Nat} {is:List Nat} {xs:List Str} (hp:PassesOwn (model X.prog X.w) X.A X.env X.xe) (hc:X.calm=true) (hN:X.N.Nodup) (hi:MIG X ad tg it f) (ht:bH tg=some (xs,k)) (hn:NmsOk X xs is) (hb:aDt X P q ps0 ad Z body g)
  (hs: ∀ x,foldedSetIterable it X.env x=pure x):LMS X P q ps0 ad Z (.For tg it body [] pos) (wF is (k==0) f g):=by
 obtain⟨P',hk⟩:=aB8 hc hN ht hn
 refine LPS.imp (aDq hp hc hi P' hb hs) ?_
 rintro D' σ H ⟨G₀,G,ρ,E,S,hx,hr⟩
 refine⟨G,ρ,E σ,S.st.gh,S.sl,hx.1 σ, ?_⟩
 unfold wF fE at hr
 cases e:f ρ with
 | ok d=>
  rw [e] at hr
  have hr':OKo X ad G₀ (match items d with | some ds=>cP (iP is (k==0)) g ds ρ | none=> .rt .bad) D' E:=hr
  cases e2:items d with
  | none=>rw [e2] at hr';exact hr'.elim
  | some ds=>
   rw [e2] at hr'
   exact⟨ds,e2,fun J G' H' st it=>gA hk (S.step st) hx it hr'⟩
 | ow xs=>
  rw [e] at hr
  exact fun J G' H' st it=>gA hk (S.step st) hx it hr
 | ex c=>rw [e] at hr;exact fun G1 H1 st=>hr σ G1 H1 (S.step st)
 | bad=>rw [e] at hr;exact hr
end
def TPL (X:Cx) (P:Addr) (q:Str) (ps0:Array Value) (pins:List (Addr×Obj)) (σ:St) (Q:Bool->Hp->Prop) (b:Bool) (s':Shared):Prop:=
 ∃ ps cs,TbD P q ps0 ps cs (X.pn++pins)/\TP X (pnL P ps cs pins) σ Q b s'
def LPW (X:Cx) (P:Addr) (q:Str) (ps0:Array Value) (e:Expr) (t:TT):Prop:=
 ∀ (whole:Sem Value) (pins:List (Addr×Obj)) (ps:Array Value) (cs:List (Addr×Obj)) (s:Shared) (σ:St) (H:Hp) (Q:Bool->Hp->Prop),TbD P q ps0 ps cs (X.pn++pins)->Inv X (pnL P ps cs pins) σ H s->t σ H Q->
  wpAny (model X.prog X.w) X.A (isTrue e X.env whole) (TPL X P q ps0 pins σ Q) X.xe s
def LPT (X:Cx) (P:Addr) (q:Str) (ps0:Array Value) (e:Expr) (t:TT):Prop:=
 ∀ (pins:List (Addr×Obj)) (ps:Array Value) (cs:List (Addr×Obj)) (s:Shared) (σ:St) (H:Hp) (Q:Bool->Hp->Prop),TbD P q ps0 ps cs (X.pn++pins)->Inv X (pnL P ps cs pins) σ H s->t σ H Q->
  wpAny (model X.prog X.w) X.A (isTrue e X.env (eval e X.env)) (TPL X P q ps0 pins σ Q) X.xe s
abbrev LMT (X:Cx) (P:Addr) (q:Str) (ps0:Array Value) (ad:Ad) (e:Expr) (f:SK.F):Prop:=LPT X P q ps0 e (tT X ad f)
abbrev LMW (X:Cx) (P:Addr) (q:Str) (ps0:Array Value) (ad:Ad) (e:Expr) (f:SK.F):Prop:=LPW X P q ps0 e (tT X ad f)
section
variable {X:Cx} {P:Addr} {q:Str} {ps0:Array Value} {ad:Ad} {Z:(St->Nat->Hp->Prop)->Prop} {a b e:Expr} {f g:SK.F} {gs hs:FS} {sa sb:List Stmt} {pos:Pos} {t u:TS} {tc tA tB:TT}
theorem LPW.pt (h:LPW X P q ps0 e tc):LPT X P q ps0 e tc:=h _
theorem aAg (h:PT X e tc):LPT X P q ps0 e tc:=fun pins ps cs s σ H Q T I w=>L2.thn (h _ s σ H Q I w) fun b s' hs=>⟨ps,cs,T,hs⟩
theorem aDx {op:CmpOp} (hu:X.A.units+62<cLine) (ha:LME X P q ps0 ad a f) (hb:ME X ad b g) (hm:behindInMarks op b=false):LMT X P q ps0 ad (.Compare a [op] [b] pos) (dQ op f g):=by
 intro pins ps cs s σ H Q T I ⟨G,ρ,E,hG,hS,hx,ht,hr⟩
 refine wpAny_isTrue_Compare1 (L2.thn (ha.thn T I hG hS hx hr) fun v s1 ⟨ps1,cs1,x,d,G1,H1,T1,I1,r1,st1,q1,k1⟩=>L2.thn (hb.thn I1 st1.gh (hS.step st1) hx k1) fun u s2 ⟨y,d2,G2,H2,I2,r2,st2,q2,k2⟩=>
  L2.thn (dU op hu _ s2 σ H2 G2 d d2 x y v u _ E I2 st2.gh (q1.mono st2.sg) q2 r1 r2 k2) fun c s3 ⟨z,H3,I3,r3,k,e,q3⟩=> ?_) hm
 subst e
 cases r3
 exact wpAny_truthy_bool ⟨ps1,cs1,T1,H3,I3,q3⟩
theorem aDy (ha:LPT X P q ps0 a tA):LPW X P q ps0 (.BoolOp .Or [a] pos) tA:=by
 intro wh pins ps cs s σ H Q T I h
 refine isTrue_or (L2.thn (ha pins ps cs s σ H Q T I h) fun c s1 e=> ?_)
 cases c with
 | false=>exact isTrue_or_nil e
 | true=>exact e
theorem aIe {r:List Expr} (ha:LPT X P q ps0 a tA) (hb:LPW X P q ps0 (.BoolOp .Or (b::r) pos) tB):LPW X P q ps0 (.BoolOp .Or (a::b::r) pos) (tOr tA tB):=by
 intro wh pins ps cs s σ H Q T I h
 refine isTrue_or (L2.thn (ha pins ps cs s σ H _ T I h) fun c s1 hz_=> ?_)
 obtain⟨ps1,cs1,T1,H1,I1,q1⟩:=hz_
 cases c with
 | true=>exact⟨ps1,cs1,T1,H1,I1,q1⟩
 | false=>exact hb wh pins ps1 cs1 s1 σ H1 Q T1 I1 q1
theorem aIf {r:List Expr} (ha:LMT X P q ps0 ad a f) (hb:LMW X P q ps0 ad (.BoolOp .Or (b::r) pos) g):LMW X P q ps0 ad (.BoolOp .Or (a::b::r) pos) (rOr f g):=
 fun wh pins ps cs s σ H Q T I h=>aIe ha hb wh pins ps cs s σ H Q T I (aGh h)
theorem aDz {c:Expr} {sa sb:List Stmt} (hc:LPT X P q ps0 c tc) (ha:u7 X P q ps0 sa t) (hb:u7 X P q ps0 sb u):LPS X P q ps0 (.If c sa sb pos) (aJg tc t u):=by
 intro pins ps cs s σ H D T I h
 refine wpAny_If (L2.thn (hc pins ps cs s σ H _ T I h) fun d s1 hz_=> ?_)
 obtain⟨ps1,cs1,T1,H1,I1,q1⟩:=hz_
 cases d with
 | true=>exact ha pins ps1 cs1 s1 σ H1 D T1 I1 q1
 | false=>exact hb pins ps1 cs1 s1 σ H1 D T1 I1 q1
theorem aIg {D':Ends} {σ:St} {H:Hp} (h:tS X ad Z (sIf f gs hs) D' σ H):aJg (tT X ad f) (tS X ad Z gs) (tS X ad Z hs) D' σ H:=by
 obtain⟨G₀,G,ρ,E,S,hx,hr⟩:=h
 unfold sIf at hr
 cases e:f ρ with
 | ok d=>
  rw [e] at hr
  cases d<;>try exact hr.elim
  rename_i k
  refine⟨G,ρ,E σ,S.st.gh,S.sl,hx.1 σ, .inl ⟨k,e⟩, ?_⟩
  rw [e]
  intro v G1 H1 st r
  unfold Rep at r;subst r
  refine⟨k,rfl, ?_⟩
  cases k with
  | true=>exact p8 ⟨G₀,G1,ρ,E,S.step st,hx,hr⟩
  | false=>exact q0 ⟨G₀,G1,ρ,E,S.step st,hx,hr⟩
 | ow xs=>rw [e] at hr;exact hr.elim
 | ex k=>
  rw [e] at hr
  refine⟨G,ρ,E σ,S.st.gh,S.sl,hx.1 σ, .inr ⟨k,e⟩, ?_⟩
  rw [e]
  exact fun G1 H1 st=>hr σ G1 H1 (S.step st)
 | bad=>rw [e] at hr;exact hr.elim
theorem aD0 {c:Expr} (hc:LMT X P q ps0 ad c f) (ha:aDt X P q ps0 ad Z sa gs) (hb:aDt X P q ps0 ad Z sb hs):LMS X P q ps0 ad Z (.If c sa sb pos) (sIf f gs hs):=
 LPS.imp (aDz hc ha hb) fun _ _ _ h=>aIg h
end
noncomputable def aD1 (a:Arguments):Bool:=a.posonlyargs.isEmpty&&a.args.isEmpty&&a.vararg.isNone&&a.kwonlyargs.isEmpty&&a.kw_defaults.isEmpty&&a.kwarg.isNone&&a.defaults.isEmpty
theorem yA {a:Arguments} (h:aD1 a=true):a=⟨[],[],none,[],[],none,[]⟩:=by
 obtain⟨a1,a2,a3,a4,a5,a6,a7⟩:=a
 unfold aD1 at h
 simp only [aw,List.isEmpty_iff,Option.isNone_iff_eq_none] at h
 obtain⟨⟨⟨⟨⟨⟨h1,h2⟩,h3⟩,h4⟩,h5⟩,h6⟩,h7⟩:=h
 subst h1 h2 h3 h4 h5 h6 h7
 rfl
noncomputable def yB (sc:Scope):Bool:=sc.kind== .function&& !sc.isCoroutine&& !sc.isGenerator&&sc.names.all (fun p=>p.2 != .cell&&p.2 != .local)&&decide (aN sc).Nodup&&(aN sc).all (fun x=> !(x==("__debug__":Str))&& !(x==("__classdict__":Str)))
theorem l8 {sc:Scope} (h:yB sc=true):LamSc (aN sc) sc/\(aN sc).Nodup/\ ∀ x∈aN sc,(x==("__debug__":Str))=false/\(x==("__classdict__":Str))=false:=by
 unfold yB at h
 simp only [aw] at h
 obtain⟨⟨⟨⟨⟨h1,h2⟩,h3⟩,h4⟩,h5⟩,h6⟩:=h
 have all: ∀ p∈sc.names,p.2≠ .cell/\p.2≠ .local:=fun p hp=>by
  have:=zAd h4 p hp
  simpa using this
 refine⟨⟨by simpa using h1,by simpa using h2,by simpa using h3,fun x hx=>(all x hx).1,fun x z=>(all _ (PySem.mem_of_lookup z)).2 rfl⟩,of_decide_eq_true h5,fun x hx=> ?_⟩
 have:=zAd h6 x hx
 simpa using this
section
variable {P:Program} {w:World} {K:Frag} {mg:Str->Option Value} {base:Heap} {ad:Ad} {k:Nat} {tab:List (Str×SK.Gl)} {fns:List (Nat×Fn)} {sc:Scope} {q:Str} {a:Addr} {cd:Value} {cl:List (Str×Addr)} {A:Around} {outer:List PySem.Env} {s:Shared} {H:Hp} {E:XK}
theorem aNn (B:ExcK K ad) (TB:cT P w K mg base ad k tab) (FB:eB P w K mg base ad k fns) (hs:yB sc=true) (hr:Room k (A.deeper (aAd q sc s.heap.objs.size a cd cl))):
  CtxOk (cxL (CXe P w) P w K mg base (aN sc) q sc a cd cl A outer s H E) ad ⟨tab,fns,sc,aN sc,[]⟩:=by
 obtain⟨S,nd,nm⟩:=l8 hs
 refine⟨rfl,nd,fun x i e=> ?_,fun x e=>e,fun x g e=> ?_,fun x i e=>(cD e).2,rfl, ?_,hr.hd,B.exc,B.kin,B.kve,fun j m F' e=> ?_⟩
 ·obtain⟨e1,e2⟩:=fN e
  have m:=fM e1
  exact⟨dC e1,e2,(nm x m).1,(nm x m).2⟩
 ·obtain⟨a,b⟩:=TB x g e
  refine⟨a, ?_⟩
  cases g with
  | fn j m F'=>
   obtain⟨r',f',h1,h2,h3,h4,h5⟩:=b
   exact⟨r',f',⟨h2,h3,h4⟩,hr.mono h1,h5⟩
  | exc c=>exact b
  | verr=>exact b
  | val d=>exact b
  | py p=>exact b
  | cls A ms=>exact⟨b.1,b.2.1,fun m n M hm=>let ⟨no,f,r,fd,ps,h1,h2,h3,h4⟩:=b.2.2 m n M hm;⟨no,f,r,fd,ps,h2,h3,hr.mono h1,h4⟩⟩
 ·exact Nat.lt_of_le_of_lt (Nat.add_le_add_left (by decide:62<=64) _) hr.units
 ·obtain⟨r',h1,h2,h3⟩:=FB j m F' e
  exact⟨r',⟨h2,h3⟩,hr.mono h1⟩
end
structure LawX (X:Cx) (ad:Ad) (C:SK.Ctx) (tn:Str) (F:Fn) (P c:Addr) (q:Str) (k:Nat):Prop where
 O:StOk X ad C
 B:ExcK X.K ad
 TB:cT X.prog X.w X.K X.mg X.base ad k C.tab
 FB:eB X.prog X.w X.K X.mg X.base ad k C.fns
 told: ∃ ft fd dn,X.mg tn=some (.ref ft)/\PySem.W.keepIn X.K (.ref ft)=true/\pL X.prog X.w X.K X.mg X.base ad (k+1) ft fd dn F/\ ∀ (s:Shared) (u:Value),X.K.In s.heap->BindsTo s fd ⟨[u],[]⟩ [(dn,u)]
 tdb:(tn==("__debug__":Str))=false
 room:Room (k+2) X.A
 ex:P∈X.ex
 ql:X.env.qual++"<lambda>"=q
 code:X.env.code= .ref c
 hC:PySem.W.CodeHd X.base c P
 hB:X.base.BuiltinsAt X.mg P
 pass:PassesOwn (model X.prog X.w) X.A X.env X.xe
 made: ∀ A ms,C.tab.lookup ("Rack":Str)=some (SK.Gl.cls A ms)->MkOk X ad A
noncomputable def aMf:Expr->Option (Arguments×Expr×Scope)
 | .Lambda ps body sc _=>some (ps,body,sc)
 | _=>none
theorem aD2 {e:Expr} {ps:Arguments} {body:Expr} {sc:Scope} (h:aMf e=some (ps,body,sc)): ∃ p,e= .Lambda ps body sc p:=by
 cases e<;>first | (cases h;exact⟨_,rfl⟩) | (cases h;done)
noncomputable def l9 (tn:Str) (F:Fn) (C:SK.Ctx):Expr->Option SK.F
 | .Call (.Name x _) [l] [] _=>if x=tn/\C.sc.names.lookup x=some .globalImplicit then(aMf l).bind fun(ps,body,sc)=>if aD1 ps&&yB sc then(cV (fun x=>dD C x) (aN sc)).bind fun cap=>(aT 50 ⟨C.tab,C.fns,sc,aN sc,[]⟩ body).map fun f=>cG F cap f else none else none
 | _=>none
theorem vA {α β:Type} {f:α->Option β}: ∀ {l:List α} {r:List β},cV f l=some r-> ∀ (i:Nat) (a:α),l[i]? =some a-> ∃ b,r[i]? =some b/\f a=some b
 | [],_,_,i,a,h=>by cases h
 | x::l,r,h,i,a,ha=>by
  unfold cV at h
  cases e:f x with
  | none=>rw [e] at h;cases h
  | some y=>
   rw [e] at h
   obtain⟨r',h1,h2⟩:=zMd h
   subst h2
   cases i with
   | zero=>cases ha;exact⟨y,rfl,e⟩
   | succ i=>exact vA h1 i a ha
theorem vB {K:PySem.W.Frag} {ad:Ad} {G H:Hp} {F:Fn} {cap:List Nat} {f:SK.F} {ρ:Rho} {Q:VK} {E:Nat->Hp->Prop} (h:RK K ad G H (cG F cap f ρ) Q E):RK K ad G H (cG F cap f ρ) Q fun _ _=>False:=by
 have key: ∀ r:R,(∀ c,r≠ .ex c)->RK K ad G H r Q E->RK K ad G H r Q fun _ _=>False:=fun r hr h=>by
  cases r with
  | ok d=>exact h
  | ow xs=>exact h
  | ex c=>exact absurd rfl (hr c)
  | bad=>exact h
 refine key _ (fun c z=> ?_) h
 unfold cG at z
 cases e:aId cap ρ with
 | none=>rw [e] at z;cases z
 | some ds=>
  rw [e] at z
  have z':qU F (f ds)= .ex c:=z
  unfold qU at z'
  cases e2:f ds with
  | ok d=>rw [e2] at z';cases z'
  | ow xs=>rw [e2] at z';cases z'
  | bad=>rw [e2] at z';cases z'
  | ex c2=>
   rw [e2] at z'
   simp only at z'
   split at z'<;>cases z'
section
variable {X:Cx} {ad:Ad} {C:SK.Ctx} {tn q:Str} {F:Fn} {P c:Addr} {k:Nat} {ps0:Array Value} {e:Expr} {f:SK.F}
theorem j8 (L:LawX X ad C tn F P c q k) (h:l9 tn F C e=some f):LME X P q ps0 ad e f/\ ∃ a b c d,e= .Call a b c d:=by
 unfold l9 at h
 split at h
 ·rename_i x p l cp
  split at h
  ·rename_i hx
   obtain⟨rfl,hgl⟩:=hx
   have hx:=zBd h
   clear h
   obtain⟨⟨ps,body,sc⟩,h0,h⟩:=hx
   obtain⟨lp,rfl⟩:=aD2 h0
   simp only at h
   split at h
   ·rename_i hp
    rw [aw] at hp
    obtain⟨hp1,hp2⟩:=hp
    cases yA hp1
    have hx:=zBd h
    clear h
    obtain⟨cap,hcap,h⟩:=hx
    obtain⟨fb,hfb,rfl⟩:=zMd h
    refine⟨?_,_,_,_,_,rfl⟩
    intro pins ps cs s σ H Q T I ⟨G,ρ,E,hG,hS,hx,hr⟩
    obtain⟨ft,fd,dn,t1,t2,t3,t4⟩:=L.told
    have hC:PySem.W.CodeHd s.heap c P:=by
     obtain⟨o,vs,file,tf,flags,tg,inF,text,tt,e1,r⟩:=L.hC
     exact⟨o,vs,file,tf,flags,tg,inF,text,tt,(I.bs _ _ e1).1,r⟩
    have hB:s.heap.BuiltinsAt X.mg P:=by
     obtain⟨bm,o,b1,b2,b3,b4,b5,r⟩:=L.hB
     exact⟨bm,o,b1,b2,b3,b4,(I.bs _ _ b5).1,r⟩
    refine aDs (k:=k) (F:=F) (f:=fb) (cap:=cap) (dn:=dn) (fd:=fd) (ad:=ad) (L.O.cx.gk _ hgl) t1 L.tdb t2 t3 L.room t4 L.ex rfl L.ql (fun x hx=> ?_) L.code hC hB (l8 hp2).1 (fun _ _ _ _=>rfl) (dM hcap) (fun i x hi=> ?_) (fun a cd cl A outer s H E hr=> ?_) T I hG hS (vB hr)
    ·obtain⟨j,e1⟩:=jT hcap x (jU hx)
     exact L.O.cx.cap x j e1
    ·obtain⟨j,e1,e2⟩:=vA hcap i x hi
     refine⟨j,e1, ?_,L.O.cx.cap x j e2⟩
     rw [L.O.cx.N]
     exact dC (cD e2).1
    ·exact((bV (ad:=ad) 50).1 _ _ body fb (aNn L.B L.TB L.FB hp2 hr) hfb).1
   ·cases h
  ·cases h
 ·cases h
end
structure MRd where
 A:Nat
 i:Nat
 M:FM
 fs:List F
noncomputable def vC (C:SK.Ctx) (e:Expr):Option MRd:=(rkc C).bind fun(A,ms)=>(pI e).bind fun c=>(bP c.o).bind fun(x,_)=>(loc C x).bind fun i=>(ms.lookup c.m).bind fun(n,M)=>if c.as.length<20 then(cV (aT 50 C) c.as).bind fun fs=>if fs.length=n then some ⟨A,i,M,fs⟩ else none else none
noncomputable def aD3 (C:SK.Ctx):Expr->Option (MRd×CmpOp×F)
 | .Compare a [op] [b] _=>(vC C a).bind fun r=>(aT 50 C b).map fun g=>(r,op,g)
 | _=>none
noncomputable def cOf (z:MRd×CmpOp×F):FC:=mI z.1.A z.1.i z.1.M z.1.fs z.2.1 z.2.2
noncomputable def yC (C:SK.Ctx) (e:Expr):Option FC:=match aD3 C e with
 | some z=>some (cOf z)
 | none=>(aT 50 C e).map aHz
noncomputable def orX (C:SK.Ctx):List Expr->Option FC
 | []=>none
 | [a]=>yC C a
 | a::b::r=>(yC C a).bind fun c1=>(orX C (b::r)).map fun c2=>cOr c1 c2
noncomputable def ifX (C:SK.Ctx) (e:Expr):Option FC:=match aD3 C e with
 | some z=>some (cOf z)
 | none=>(match e with
  | .BoolOp .Or (a::es) _=>(aD3 C a).bind fun _=>orX C (a::es)
  | _=>none)
noncomputable def aK5:Stmt->Option (Expr×Expr×List Expr×Pos)
 | .Return (some (.BoolOp .And (a::e::es) bp)) _=>some (a,e,es,bp)
 | _=>none
noncomputable def mkX:Stmt->Option (Str×Str)
 | .Assign [.Name y _] (.Call (.Name x _) [] [] _) _=>some (y,x)
 | _=>none
noncomputable def rkS (C:SK.Ctx) (st:Stmt):Option FS:=match mkX st with
 | some (y,x)=>if x=("Rack":Str)/\C.sc.names.lookup x=some .globalImplicit then(rkc C).bind fun(A,_)=>(loc C y).map fun i=>xY i A else none
 | none=>(match aK5 st with
  | some (a,e,es,bp)=>(aD3 C a).bind fun z=>(aT 50 C (.BoolOp .And (e::es) bp)).map fun f=>xZ (cOf z) f
  | none=>(match st with
   | .Expr e _=>(vC C e).map fun r=>vT r.A r.i r.M r.fs
   | .If c a b _=>(ifX C c).bind fun t=>(fG 50 true C a).bind fun g=>(fG 50 true C b).map fun h=>aEp t g h
   | _=>none))
theorem vD {C:SK.Ctx} {A:Nat} {ms:List (Str×Nat×FM)} (h:rkc C=some (A,ms)):C.tab.lookup ("Rack":Str)=some (SK.Gl.cls A ms):=by
 unfold rkc at h
 split at h
 ·rename_i e
  cases h
  exact e
 ·cases h
theorem aD4 {st:Stmt} {a e:Expr} {es:List Expr} {bp:Pos} (h:aK5 st=some (a,e,es,bp)): ∃ p,st= .Return (some (.BoolOp .And (a::e::es) bp)) p:=by
 unfold aK5 at h
 split at h
 ·cases h;exact⟨_,rfl⟩
 ·cases h
theorem aIh {st:Stmt} {y x:Str} (h:mkX st=some (y,x)): ∃ p1 p2 p3 p4,st= .Assign [.Name y p1] (.Call (.Name x p2) [] [] p3) p4:=by
 unfold mkX at h
 split at h
 ·cases h;exact⟨_,_,_,_,rfl⟩
 ·cases h
theorem vE {C:SK.Ctx} {e:Expr} {z:MRd×CmpOp×F} (h:aD3 C e=some z): ∃ a b p,e= .Compare a [z.2.1] [b] p/\vC C a=some z.1/\aT 50 C b=some z.2.2:=by
 unfold aD3 at h
 split at h
 ·obtain⟨r,h1,h⟩:=zBd h
  obtain⟨g,h2,rfl⟩:=zMd h
  exact⟨_,_,_,rfl,h1,h2⟩
 ·cases h
section
variable {X:Cx} {ad:Ad} {Z:(St->Nat->Hp->Prop)->Prop} {C:SK.Ctx} {e:Expr}
theorem j9 (O:StOk X ad C) {r:MRd} (h:vC C e=some r):PE X e (nU X ad r.A r.i r.M r.fs)/\ ∃ a b c d,e= .Call a b c d:=by
 unfold vC at h
 have hx:=zBd h
 clear h
 obtain⟨⟨A,ms⟩,h0,h⟩:=hx
 have hx:=zBd h
 clear h
 obtain⟨c,h1,h⟩:=hx
 have hx:=zBd h
 clear h
 obtain⟨⟨x,p⟩,h2,h⟩:=hx
 obtain⟨rfl,hl⟩:=iJ h1
 clear h1
 obtain⟨o,m,ap,as,cp⟩:=c
 have h2':bP o=some (x,p):=h2
 cases aQ h2'
 have hx:=zBd h
 clear h
 obtain⟨i,h3,h⟩:=hx
 have hx:=zBd h
 clear h
 obtain⟨⟨n0,M⟩,h4,h⟩:=hx
 simp only at h
 split at h
 ·rename_i hlen
  obtain⟨fs,h5,h⟩:=zBd h
  split at h
  ·rename_i hn
   cases h
   obtain⟨_,RC,MO⟩:=(O.cx.gt _ _ (vD h0)).2
   obtain⟨v1,v2,v3,v4⟩:=O.cx.vis x i h3
   obtain⟨ma,ns⟩:=j4 (bV (ad:=ad) 50).1 O.cx h5
   exact⟨aHx RC (MO m n0 M h4) v1 v2 v3 v4 ma hn (fun a r e=>by
    subst e
    exact⟨aJ (ns a (.head _)),j6 fun e he=>ns e (.tail _ he)⟩) (dM h5).symm (nS ns hlen) hl,_,_,_,_,rfl⟩
  ·cases h
 ·cases h
theorem vF (O:StOk X ad C) {z:MRd×CmpOp×F} (h:aD3 C e=some z):MTX X ad Z e (cOf z):=by
 obtain⟨a,b,p,rfl,h1,h2⟩:=vE h
 exact aDi O.cx.un (j9 O h1).1 ((bV (ad:=ad) 50).1 X C _ _ O.cx h2).1 (bK (aI h2).2.1)
theorem pM (O:StOk X ad C) {c:FC} (h:yC C e=some c):MTX X ad Z e c:=by
 unfold yC at h
 split at h
 ·rename_i z hz
  cases h
  exact vF O hz
 ·obtain⟨f,h1,rfl⟩:=zMd h
  exact x3 ((bV (ad:=ad) 50).1 X C _ _ O.cx h1).2.1
theorem aAh (O:StOk X ad C) {pos:Pos}: ∀ {es:List Expr} {c:FC},orX C es=some c->MWX X ad Z (.BoolOp .Or es pos) c
 | [],c,h=>by cases h
 | [a],c,h=>aDj (pM O h)
 | a::b::r,c,h=>by
  unfold orX at h
  obtain⟨c1,h1,h⟩:=zBd h
  obtain⟨c2,h2,rfl⟩:=zMd h
  exact aH1 (pM O h1) (aAh O h2)
theorem aIi (O:StOk X ad C) {c:FC} (h:ifX C e=some c):MTX X ad Z e c:=by
 unfold ifX at h
 split at h
 ·rename_i z hz
  cases h
  exact vF O hz
 ·split at h
  ·obtain⟨z,_,h⟩:=zBd h
   exact(aAh O h).pt
  ·cases h
theorem aIj {E₀:XK} (O:StOk X ad C) (MK: ∀ A ms,C.tab.lookup ("Rack":Str)=some (SK.Gl.cls A ms)->MkOk X ad A) {st:Stmt} {g:FS} (h:rkS C st=some g):MS X ad (Zt ad E₀ true) st g:=by
 unfold rkS at h
 split at h
 ·rename_i y x hm
  obtain⟨p1,p2,p3,p4,rfl⟩:=aIh hm
  split at h
  ·rename_i hc
   obtain⟨rfl,hg⟩:=hc
   have hx:=zBd h
   clear h
   obtain⟨⟨A,ms⟩,h0,h⟩:=hx
   obtain⟨i,h1,rfl⟩:=zMd h
   have nm:=O.nm h1
   obtain⟨hd,hmg,_,_⟩:=O.cx.gt _ _ (vD h0)
   exact aDh (MK A ms (vD h0)) (O.cx.gk _ hg) hmg hd O.cx.nd nm.1 nm.2.1 nm.2.2
  ·cases h
 ·split at h
  ·rename_i a e es bp hr
   obtain⟨p,rfl⟩:=aD4 hr
   obtain⟨z,h1,h⟩:=zBd h
   obtain⟨f,h2,rfl⟩:=zMd h
   obtain⟨a',b,p',rfl,h3,h4⟩:=vE h1
   have kE:=(bV (ad:=ad) 50).1
   exact aDk O.cx.un (j9 O h3).1 (kE X C _ _ O.cx h4).1 (bK (aI h4).2.1) (kE X C _ _ O.cx h2).1
  ·split at h
   ·obtain⟨r,h1,rfl⟩:=zMd h
    obtain⟨pe,a,b,c,d,rfl⟩:=j9 O h1
    exact aHy pe rfl
   ·obtain⟨t,h1,h⟩:=zBd h
    obtain⟨ga,h2,h⟩:=zBd h
    obtain⟨gb,h3,rfl⟩:=zMd h
    have kS:=(iI (ad:=ad) (E₀:=E₀) 50).2
    exact aH3 (aIi O h1) (kS X C true _ ga O (fun z=>nomatch z) h2) (kS X C true _ gb O (fun z=>nomatch z) h3)
   ·cases h
end
noncomputable def yD (tn:Str) (F:Fn) (C:SK.Ctx):Expr->Option SK.F
 | .Compare a [op] [b] _=>(l9 tn F C a).bind fun f=>(aT 50 C b).map fun g=>dQ op f g
 | _=>none
noncomputable def aK6 (tn:Str) (F:Fn) (C:SK.Ctx) (e:Expr):Option SK.F:=match yD tn F C e with
 | some f=>some f
 | none=>(match e with
  | .BoolOp .Or [a,b] _=>(aT 50 C a).bind fun f=>(yD tn F C b).map fun g=>rOr f g
  | e=>aT 50 C e)
section
variable {X:Cx} {ad:Ad} {C:SK.Ctx} {tn q:Str} {F:Fn} {P c:Addr} {k:Nat} {ps0:Array Value} {e:Expr} {f:SK.F}
theorem pN (L:LawX X ad C tn F P c q k) (h:yD tn F C e=some f):LMT X P q ps0 ad e f:=by
 unfold yD at h
 split at h
 ·obtain⟨f',h1,h⟩:=zBd h
  obtain⟨g,h2,rfl⟩:=zMd h
  exact aDx L.O.cx.un (j8 L h1).1 ((bV (ad:=ad) 50).1 X C _ _ L.O.cx h2).1 (bK (aI h2).2.1)
 ·cases h
theorem aD5 (L:LawX X ad C tn F P c q k) (h:aK6 tn F C e=some f):LMT X P q ps0 ad e f:=by
 unfold aK6 at h
 split at h
 ·rename_i g hg
  cases h
  exact pN L hg
 ·split at h
  ·rename_i a b pos _
   obtain⟨f',h1,h⟩:=zBd h
   obtain⟨g,h2,rfl⟩:=zMd h
   exact(aIf (aAg ((bV (ad:=ad) 50).1 X C _ _ L.O.cx h1).2.1) (aDy (pN L h2))).pt
  ·exact aAg ((bV (ad:=ad) 50).1 X C _ _ L.O.cx h).2.1
end
noncomputable def aK7:Stmt->Option (Str×Expr)
 | .Assign [.Name x _] (.List [e] _) _=>some (x,e)
 | _=>none
noncomputable def aK8:Stmt->Option (Str×Expr)
 | .Expr (.Call (.Attribute (.Name x _) m ap) [e] [] cp) _=>if m="append"/\(ap.endLine==cp.line)=true then some (x,e) else none
 | _=>none
theorem aD6 {st:Stmt} {x:Str} {e:Expr} (h:aK7 st=some (x,e)): ∃ p1 p2 p3,st= .Assign [.Name x p1] (.List [e] p2) p3:=by
 unfold aK7 at h
 split at h
 ·cases h;exact⟨_,_,_,rfl⟩
 ·cases h
theorem aD7 {st:Stmt} {x:Str} {e:Expr} (h:aK8 st=some (x,e)): ∃ p1 ap cp p3,st= .Expr (.Call (.Attribute (.Name x p1) "append" ap) [e] [] cp) p3/\(ap.endLine==cp.line)=true:=by
 unfold aK8 at h
 split at h
 ·split at h
  ·rename_i hc
   obtain⟨rfl,hl⟩:=hc
   cases h
   exact⟨_,_,_,_,rfl,hl⟩
  ·cases h
 ·cases h
noncomputable def tdS (tn:Str) (F:Fn) (C:SK.Ctx) (st:Stmt):Option FS:=match aK7 st with
 | some (x,e)=>(l9 tn F C e).bind fun f=>(loc C x).map fun i=>vP i (cJ [f])
 | none=>match aK8 st with
  | some (x,e)=>(l9 tn F C e).bind fun f=>(loc C x).map fun i=>iZ i f
  | none=>none
mutual
noncomputable def lS:Nat->Str->Fn->SK.Ctx->Stmt->Option FS
 | 0,_,_,_,_=>none
 | n+1,tn,F,C,st=>match tdS tn F C st with
  | some g=>some g
  | none=>match rkS C st with
  | some g=>some g
  | none=>match st with
   | .If c a b _=>(aK6 tn F C c).bind fun f=>(lSs n tn F C a).bind fun g=>(lSs n tn F C b).map fun h=>sIf f g h
   | .For tg it b [] _=>(bH tg).bind fun(xs,k)=>(yW 50 C (k != 0) it).bind fun f=>(cV (fun x=>loc C x) xs).bind fun is=>if(bP it).isNone then(lSs n tn F C b).map fun g=>wF is (k==0) f g else none
   | st=>yX 50 true C st
noncomputable def lSs:Nat->Str->Fn->SK.Ctx->List Stmt->Option FS
 | 0,_,_,_,_=>none
 | n+1,tn,F,C,l=>match l with
  | []=>some aX
  | st::r=>(lS n tn F C st).bind fun g=>(lSs n tn F C r).map fun h=>bE g h
end
section
variable {X:Cx} {ad:Ad} {C:SK.Ctx} {tn q:Str} {F:Fn} {P c:Addr} {k:Nat} {ps0:Array Value}
theorem aK9 {Z:(St->Nat->Hp->Prop)->Prop} (L:LawX X ad C tn F P c q k) {st:Stmt} {g:FS} (h:tdS tn F C st=some g):LMS X P q ps0 ad Z st g:=by
 unfold tdS at h
 split at h
 ·rename_i x e he
  obtain⟨p1,p2,p3,rfl⟩:=aD6 he
  obtain⟨f,h1,h⟩:=zBd h
  obtain⟨i,h2,rfl⟩:=zMd h
  obtain⟨me,a',b',c',d',rfl⟩:=j8 (ps0:=ps0) L h1
  have nm:=L.O.nm h2
  exact aDu L.O.cx.nd nm.1 nm.2.1 (x8 me rfl) rfl nm.2.2
 ·split at h
  ·rename_i x e he
   obtain⟨p1,ap,cp,p3,rfl,hl⟩:=aD7 he
   obtain⟨f,h1,h⟩:=zBd h
   obtain⟨i,h2,rfl⟩:=zMd h
   obtain⟨me,a',b',c',d',rfl⟩:=j8 (ps0:=ps0) L h1
   obtain⟨v1,v2,v3,v4⟩:=L.O.cx.vis x i h2
   exact aDv v1 v2 v3 v4 me rfl hl
  ·cases h
theorem aIk {E₀:XK} (L:LawX X ad C tn F P c q k): ∀ n:Nat,(∀ st g,lS n tn F C st=some g->LMS X P q ps0 ad (Zt ad E₀ true) st g)/\ ∀ l g,lSs n tn F C l=some g->aDt X P q ps0 ad (Zt ad E₀ true) l g
 | 0=>⟨(fun _ _ h=>by cases h),(fun _ _ h=>by cases h)⟩
 | n+1=>by
  obtain⟨hS,hSs⟩:=aIk (E₀:=E₀) L n
  obtain⟨kE,kL,kI⟩:=bV (ad:=ad) 50
  refine⟨fun st g h=> ?_,fun l g h=> ?_⟩
  ·unfold lS at h
   split at h
   ·rename_i g' hg
    cases h
    exact aK9 L hg
   split at h
   ·rename_i g' hg
    cases h
    exact aAf (aIj L.O L.made hg)
   ·split at h
    ·obtain⟨f,h1,h⟩:=zBd h
     obtain⟨ga,h2,h⟩:=zBd h
     obtain⟨gb,h3,rfl⟩:=zMd h
     exact aD0 (aD5 L h1) (hSs _ ga h2) (hSs _ gb h3)
    ·rename_i tg it b pos _ _
     have hx:=zBd h
     clear h
     obtain⟨⟨xs,m⟩,h1,h⟩:=hx
     obtain⟨f,h2,h⟩:=zBd h
     obtain⟨is,h3,h⟩:=zBd h
     split at h
     ·rename_i hv
      obtain⟨gb,h4,rfl⟩:=zMd h
      have hn: ∀ x p,it≠ .Name x p:=xL (Option.isNone_iff_eq_none.mp hv)
      have ns: ∀ a b c,it≠ .Set a b c:=fun a b c z=>by subst z;exact iH h2
      exact aDw L.pass L.O.cx.calm L.O.cx.nd ((kI X C tg _ _ f L.O.cx (uM h1).2 h2).2 hn) h1 (L.O.nms h3) (hSs _ gb h4) (wR ns)
     ·cases h
    ·exact aAf ((iI (ad:=ad) (E₀:=E₀) 50).1 X C true _ g L.O (fun z=>nomatch z) h)
  ·unfold lSs at h
   split at h
   ·cases h
    exact x9
   ·obtain⟨ga,h1,h⟩:=zBd h
    obtain⟨gb,h2,rfl⟩:=zMd h
    exact u9 (hS _ ga h1) (hSs _ gb h2)
end
noncomputable def cxP (P0:Addr) (X:Cx):Cx:={ X with ex:=[P0] }
theorem aLa {fs ex:List Addr} {H H':Hp} {h h':Heap} (u:Un fs [] H H' h h'):Un fs ex H H' h h':=
 ⟨fun b o e n f _=>u.keep b o e n f (by simp),fun b o e n f _=>u.slot b o e n f (by simp),fun b o e n _=>u.free b o e n (by simp),fun b o e _=>u.there b o e (by simp),u.tups,u.frzs,u.tbls⟩
section
variable {X:Cx} {P0:Addr} {σ:St} {H:Hp} {s:Shared}
theorem aLb (I:Inv X [] σ H s) (hex:X.ex=[]) (hP:P0<X.s₀.heap.objs.size) (hb:X.base.get? P0=none) (hfs:P0∉X.fs) (hcell: ∀ x c,X.env.cells.lookup x=some c->X.s₀.heap.objs.size<=c):Inv (cxP P0 X) [] σ H s:=by
 refine⟨⟨I.ok.mod,I.ok.kind,I.ok.glob,I.ok.blt,I.ok.above,I.ok.inj,I.ok.has,I.ok.cab,I.ok.hd,I.ok.frames,I.ok.stk,fun b hb'=> ?_,I.ok.bs,I.ok.bsz,fun b o e hb'=> ?_,fun b hb'=> ?_,I.ok.funs,I.ok.frf⟩,I.os,I.bare, ?_,I.loc,I.cell,I.free,I.freeC,I.pin,I.hok,I.len⟩
 ·have e:b=P0:=List.mem_singleton.mp hb'
  subst e
  exact⟨bj (bh hP I.ok.above),fun x c h z=>absurd (bh hP (hcell x c h)) (by rw [z];exact Nat.lt_irrefl _)⟩
 ·have e':b=P0:=List.mem_singleton.mp hb'
  subst e'
  have e2:X.base.get? b=some o:=e
  rw [hb] at e2
  cases e2
 ·have e:b=P0:=List.mem_singleton.mp hb'
  subst e
  exact hfs
 ·have u:=I.base
  rw [hex] at u
  exact aLa u
theorem aIl {q:Str}:Tb P0 q #[] []:=⟨trivial,(fun pos cv h=>by cases h),(fun p hp=>by cases hp)⟩
theorem yE {ad:Ad} {C:SK.Ctx} {tn q:Str} {F:Fn} {c:Addr} {k n:Nat} {b:List Stmt} {g:FS} {ds:List D} {vs:List V} {m:Nat} (L:LawX (cxP P0 X) ad C tn F P0 c q k) (hg:lSs n tn F C b=some g) (I:Inv (cxP P0 X) [] (vs.map some++ao m none) H s) (hH:X.H₀=H) (hpn:X.pn=[])
  (ht:s.heap.get? P0=some (PySem.W.tabObj #[])) (hn:H P0=none) (hfs:P0∉X.fs) {G:Hp} (hG:Same G H) (r:aE X.K ad G ds vs) (hm:g (ds.map SK.Slot.sh++ao m .no)= .rt (.ok (.bl true))):
  wpAny (model X.prog X.w) X.A (execs b X.env) (fun f s'=>f= .ret (.bool true)/\ ∃ σ' H' ps,Inv (cxP P0 X) [] σ' H' s'/\s'.heap.get? P0=some (PySem.W.tabObj ps)) X.xe s:=by
 have I1:Inv (cxP P0 X) (pnL P0 #[] [] []) (vs.map some++ao m none) H s:=I.pins_of fun p hp=>by
  have e:p=(P0,PySem.W.tabObj #[]):=List.mem_singleton.mp hp
  subst e
  exact⟨ht,hn,(I.ok.exf P0 (.head _)).1,hfs,fun v z=>nomatch z⟩
 have TD:TbD P0 q #[] #[] [] ((cxP P0 X).pn++[]):=by
  refine⟨aIl,⟨#[],by simp⟩,fun r hr=> ?_,fun p hp=>by cases hp⟩
  have e:r∈X.pn++[]:=hr
  rw [hpn] at e
  cases e
 refine L2.thn ((aIk (ps0:= #[]) (E₀:=fun _ _ _=>False) L n).2 b g hg [] #[] [] s _ H ⟨fun _ _=>False,fun v _=>v= .bl true,fun _ _=>False,fun _ _=>False⟩ TD I1 ⟨G,G,ds.map SK.Slot.sh++ao m .no,fun _ _ _=>False, ?_,⟨fun σ pins H s e s' _ hc=> ?_,fun z=>nomatch z⟩, ?_⟩) fun f s' hs=> ?_
 ·have hG':Same G (cxP P0 X).H₀:=by
   show Same G X.H₀
   rw [hH]
   exact hG
  have:=gG (X:=cxP P0 X) (ad:=ad) (n:=m) hG' r
  have e:(cxP P0 X).H₀=H:=hH
  rwa [e] at this
 ·obtain⟨_,_,_,_,_,_,_,_,_,_,_,_,_,_,_,_,z⟩:=hc
  exact z.elim
 ·rw [hm]
  intro v G' H' st q
  unfold Rep at q
  exact q
 ·obtain⟨ps,cs,T,hs⟩:=hs
  cases f with
  | next=>obtain⟨_,_,_,z⟩:=hs;exact z.elim
  | brk=>obtain⟨_,_,_,z⟩:=hs;exact z.elim
  | cont=>obtain⟨_,_,_,z⟩:=hs;exact z.elim
  | ret u=>
   obtain⟨v,σ',H',J,rv,qv⟩:=hs
   have qv':v= .bl true:=qv
   subst qv'
   obtain rfl:u=Value.bool true:=rv
   refine⟨rfl,σ',H',ps,J.pins_of (fun p hp=>by cases hp),(J.pin (P0,PySem.W.tabObj ps) ?_).1⟩
   exact bt _ (.head _)
end
noncomputable def aIm (H:Hp) (P0:Addr):Hp:=fun b=>if b=P0 then some (.lst []) else H b
theorem mB {H:Hp} {P0 b:Addr} (h:aIm H P0 b=none):H b=none/\b≠P0:=by
 unfold aIm at h
 by_cases e:b=P0
 ·rw [if_pos e] at h;cases h
 ·rw [if_neg e] at h;exact⟨h,e⟩
theorem aD8 {H:Hp} {P0 b:Addr} (h:H b=none) (n:b≠P0):aIm H P0 b=none:=by
 unfold aIm
 rw [if_neg n]
 exact h
section
variable {P:Program} {w:World} {K:Frag} {mg mb:Str->Option Value} {ad:Ad} {fa a P0 c:Addr} {s₁:Shared} {name qual x:Str} {params:Arguments} {body:List Stmt} {scope:Scope} {dV kV doc pm ct oc:Value} {an od:Option Addr} {osl:Array (Option Value)} {N:List Str}
  {H:Hp} {tn q:Str} {F:Fn} {k n m:Nat} {C:SK.Ctx} {g:FS} {d:D}
theorem pO (KX:K.In s₁.heap) (hns:s₁.heap.Ns mainGlobals mg) (hb:s₁.heap.Ns builtinsNs mb) (hbb: ∀ x:Str,x≠"__name__"->mb x=bootBuiltins x) (hlim:s₁.heap.NoLimit) (hg:s₁.gens= #[])
  (lk:K.lookup fa=some ⟨oc,od, .func (PySem.W.fnOf name qual params body scope dV kV doc pm an (.ref c) ct),osl⟩) (hcd:PySem.W.codeIn K (.ref c) qual=true) (S:FnScope N [x] scope)
  (hbind: ∀ (s:Shared) (u:Value),BindsTo s (PySem.W.fnOf name qual params body scope dV kV doc pm an (.ref c) ct) ⟨[u],[]⟩ [(x,u)]) (hr:Room (k+3) callerA)
  (hC:PySem.W.CodeHd s₁.heap c P0) (hB:s₁.heap.BuiltinsAt mg P0) (hT:s₁.heap.get? P0=some (PySem.W.tabObj #[])) (hKP:K.lookup P0=none)
  (hO:aJv H) (hok:HOk P w H s₁.heap) (nd: ∀ b o es ep,s₁.heap.get? b=some o->o.data= .dict es ep->H b=none) (nK: ∀ b o,K.lookup b=some o->H b=none) (hn:H P0=none) (hcn:H c=none) (hbn: ∀ bm o,s₁.heap.get? bm=some o->o.data= .plain->H bm=none)
  (LX: ∀ base:Heap,K.In base->base.Ns mainGlobals mg->PySem.W.CodeHd base c P0->base.BuiltinsAt mg P0->LawX (cxP P0 (kU (CXe P w) P w K mg base N qual scope fa (.ref c) callerA [] s₁ H fun _ _ _=>False)) ad C tn F P0 c q k)
  (hread:lSs n tn F C body=some g) {G:Hp} (hG:Same G H) (rp:aE K ad G [d] [.ref a]) (hN:N.length=m+1) (hm:g ([d].map SK.Slot.sh++ao m .no)= .rt (.ok (.bl true))):
  codeAny (model P w) callerA (.call (.ref fa) ⟨[.ref a],[]⟩) (fun r s'=>r= .ok (.ret (.bool true))/\OldK s₁.heap s'.heap/\s'.os=s₁.os/\AllBare s'.gens) s₁:=by
 let base:=aEw s₁.heap (aIm H P0)
 have base_of: ∀ {b:Addr} {o:Obj},s₁.heap.get? b=some o->H b=none->b≠P0->base.get? b=some o:=fun e n z=>vU e (aD8 n z)
 have notP: ∀ {b:Addr} {o:Obj},s₁.heap.get? b=some o->o≠PySem.W.tabObj #[]->b≠P0:=fun {b o} e z y=>by
  rw [y,hT] at e
  exact z (Option.some.inj e).symm
 have nsK: ∀ {b:Addr} {mm:Str->Option Value},s₁.heap.Ns b mm->base.Ns b mm:=fun {b mm} ⟨o,es,ep,e,dd,r⟩=>⟨o,es,ep,base_of e (nd _ _ _ _ e dd) (notP e fun z=>by rw [z] at dd;cases dd),dd,r⟩
 have hKb:K.In base:=fun b o e=>base_of (KX b o e) (nK b o e) fun z=>by rw [z,hKP] at e;cases e
 have hM:Mod K mg base:=⟨hKb,nsK hns,⟨mb,nsK hb,hbb⟩,let ⟨mc,h1,h2⟩:=hlim;⟨mc,nsK h1,h2⟩⟩
 have e0:Env0 P w K mg base callerA [] s₁ H:=⟨rfl,hM,fun b o e=>⟨(mL e).1,(mB (mL e).2).1⟩,Nat.le_of_eq (rD _ _),trivial,fun b hb=>absurd (show b∈([]:List Addr) from hb) (by simp),hok, .of_eq hg⟩
 have hCb:PySem.W.CodeHd base c P0:=by
  obtain⟨o,vs,file,tf,flags,tg,inF,text,tt,e1,r⟩:=hC
  exact⟨o,vs,file,tf,flags,tg,inF,text,tt,base_of e1 hcn (by obtain⟨_,_,_,_,_,_,_,_,z⟩:=r;exact z),r⟩
 have hBb:base.BuiltinsAt mg P0:=by
  obtain⟨bm,o,b1,b2,b3,b4,b5,b6,b7,b8⟩:=hB
  exact⟨bm,o,b1,b2,b3,b4,base_of b5 (hbn bm o b5 b8) b4,b6,b7,b8⟩
 have L:=LX base hKb (nsK hns) hCb hBb
 let X:=kU (CXe P w) P w K mg base N qual scope fa (.ref c) callerA [] s₁ H fun _ _ _=>False
 have hkind: ∀ y∈[(x,Value.ref a)],scope.names.lookup y.1=some .local\/(scope.names.lookup y.1=some .cell/\((cellsFrom (s₁.heap.objs.size+1) scope.names []).lookup y.1).isSome=true):=fun y hy=>by
  rw [List.mem_singleton.mp hy]
  rcases S.par x (.head _) with z | z
  ·exact .inl z
  ·exact .inr ⟨z,PySem.W.cellsFrom_some _ _ _ (.inl z)⟩
 refine codeAny_call_function hr.depth (KX _ _ lk) rfl S.co S.gen rfl (PySem.W.codeRec_of KX hcd) (hbind _ _ _ _ _ _ ?_)
 refine wpAny_newFunctionEnv_cells S.kind hkind fun env he s1 y=> ?_
 subst he
 refine⟨hlim.keeps y.toInCall.keep,codeAny_func ?_⟩
 have I0:Inv X [] (start N [.ref a]) H s1:=eT (vs:=[.ref a]) (us:=[.ref a]) (ps:=[x]) S hr.hd e0 rfl (.cons rfl .nil) y
 have hPlt:P0<s₁.heap.objs.size:=ai hT
 have hbP:base.get? P0=none:=by
  cases e:base.get? P0 with
  | none=>rfl
  | some o=>exact absurd rfl (mB (mL e).2).2
 have fs0: ∀ b,b∉X.fs:=fun b z=>absurd (show b∈([]:List Addr) from z) (by simp)
 have I1:Inv (cxP P0 X) [] (start N [.ref a]) H s1:=aLb I0 rfl hPlt hbP (fs0 P0) fun z d h=>Nat.le_of_lt (y.above z d (PySem.mem_of_lookup h))
 have est:start N [V.ref a]=[V.ref a].map some++ao m none:=by
  unfold L2.start
  have e:N.length - [V.ref a].length=m:=by rw [hN];simp
  rw [e]
 rw [est] at I1
 have hT1:s1.heap.get? P0=some (PySem.W.tabObj #[]):=y.toInCall.keep _ _ hT
 refine wpAny_mono (yE (X:=X) L hread I1 rfl rfl hT1 hn (fs0 P0) hG rp hm) (fun fl s' hs=> ?_) fun e s' hs=> ?_
 ·obtain⟨rfl,σ',H',ps,J,hPs⟩:=hs
  refine⟨rfl,⟨fun b o e=> ?_,fun b o e=> ?_⟩,J.os,J.bare⟩
  ·by_cases hbP:b=P0
   ·subst hbP
    rw [hT] at e
    cases e
    obtain⟨co,vs,_,_,_,_,_,_,_,e1,e2,e3,e4,_⟩:=hC
    exact .inr (.inl ⟨⟨c,co,vs,e1,e2,e3,e4⟩,rfl, #[],ps,rfl,by rw [hPs];simp [PySem.W.tabObj]⟩)
   ·refine .inl ?_
    have nx:b∉(cxP P0 X).ex:=fun z=>hbP (List.mem_singleton.mp z)
    cases hh:H b with
    | none=>exact J.base.keep b o e hh (fs0 b) nx
    | some u=>
     rcases hO b with z | ⟨ob,xs,z⟩
     ·rw [hh] at z;cases z
     ·have z2:=J.base.frzs b ob _ z
      obtain⟨e1,_⟩:=hok b _ z
      obtain⟨e2,_⟩:=J.hok b _ z2
      rw [e] at e1;cases e1
      exact e2
  ·by_cases hbP:b=P0
   ·subst hbP
    exact⟨_,hPs⟩
   ·exact J.base.there b o e fun z=>hbP (List.mem_singleton.mp z)
 ·have no: ∀ (e:Value) (s'':Shared),CXe P w [] H s₁ (fun _ _ _=>False) e s''->False:=fun e s'' z=>by
   obtain⟨_,_,_,_,_,_,_,_,_,_,_,_,_,_,z⟩:=z
   exact z
  have hs':wpAny (model P w) (callerA.deeper (envOfC qual scope s₁.heap.objs.size fa (.ref c))) (leaving (envOfC qual scope s₁.heap.objs.size fa (.ref c)) e) (fun _ s''=>CXe P w [] H s₁ (fun _ _ _=>False) e s'') (fun e' s''=>CXe P w [] H s₁ (fun _ _ _=>False) e' s'') s':=hs
  exact wpAny_mono hs' (fun _ s'' z=>(no _ _ z).elim) fun e' s'' z=>(no _ _ z).elim
end
structure Td where
 dn:Str
 en:Str
 x:Str
 cx:Str
noncomputable def pQ:List Stmt->Option Td
 | [.Try [.Return (some (.Call (.Name dn _) [] [] _)) _] [.ExceptHandler (some (.Name cx _)) (some en) [.Return (some (.Call (.Name x _) [.Name en' _] [] _)) _] _] [] [] _]=>if en=en' then some ⟨dn,en,x,cx⟩ else none
 | _=>none
theorem vG {b:List Stmt} {t:Td} (h:pQ b=some t): ∃ cp xp ep ap hp' rq np dp rp tp,b=[gH t.dn t.en t.x t.cx cp xp ep ap hp' rq np dp rp tp]:=by
 unfold pQ at h
 split at h
 ·split at h
  ·rename_i he
   cases he
   cases h
   exact⟨_,_,_,_,_,_,_,_,_,_,rfl⟩
  ·cases h
 ·cases h
noncomputable def aLc (t:Td) (sc:Scope):Bool:=bI (aB sc) [t.dn] sc&&aB sc==[t.dn,t.en]&&sc.names.lookup t.dn==some .local&&sc.names.lookup t.en==some .local&&sc.names.lookup t.x==some .globalImplicit&&sc.names.lookup t.cx==some .globalImplicit&&
 !(t.x==("__debug__":Str))&& !(t.cx==("__debug__":Str))
section
variable {P:Program} {w:World} {K:Frag} {mg:Str->Option Value} {base:Heap} {ad:Ad} {k kf:Nat} {x0 qual q1:Str} {st:Stmt} {f fa:Addr} {fd fdx:FuncData} {t:Td} {F:Fn}
noncomputable def defBody:Stmt->List Stmt
 | .FunctionDef _ _ b _ _ _ _ _ _ _=>b
 | _=>[]
noncomputable def aLd:Stmt->Option Scope
 | .FunctionDef _ _ _ _ _ _ sc _ _ _=>some sc
 | _=>none
theorem aD9 (Fu:Fun K x0 qual st f fd) (hb:pQ (defBody st)=some t) (hs:(aLd st).map (aLc t)=some true) (hmx:mg t.x=some (.ref fa)) (hkx:PySem.W.keepIn K (.ref fa)=true)
  (hfx:FnOkQ P w K mg base (CXe P w) kf fa fdx [q1] (qD K ad 1 F)) (hbx:dB K fdx [q1] []) (hkf:kf<=k) (hmc:mg t.cx=some (.ref (ad.cls 0))) (B:ExcK K ad):pL P w K mg base ad k f fd t.dn F:=by
 obtain⟨oc,od,kV,doc,pm,an,cdv,ct,osl,rfl,lk,hcd⟩:=Fu.ex
 cases st with
 | FunctionDef nm as b dl re tp sc ts bi pos=>
  obtain⟨cp,xp,ep,ap,hp',rq,np,dp,rp,tp',rfl⟩:=vG (show pQ b=some t from hb)
  have hs':aLc t sc=true:=Option.some.inj hs
  unfold aLc at hs'
  simp only [aw,Bool.not_eq_true'] at hs'
  obtain⟨⟨⟨⟨⟨⟨⟨s1,s2⟩,s3⟩,s4⟩,s5⟩,s6⟩,s7⟩,s8⟩:=hs'
  have s2':aB sc=[t.dn,t.en]:=by simpa using s2
  obtain⟨S,nm'⟩:=bW s1
  intro A outer s G H a r Q E args hr e0 hbd hfn hdeed hG hq
  have m1:t.dn∈aB sc:=by rw [s2'];simp
  have m2:t.en∈aB sc:=by rw [s2'];simp
  exact x6 (N:=aB sc) lk hcd S (by rw [s2'];rfl) (by rw [s2'];rfl) (bX s3) (bX s4) (nm' _ m1).1 (nm' _ m1).2 (nm' _ m2).1 (nm' _ m2).2 hmx s7 hkx hfx hbx hkf hmc s8 B.exm (fun X e=>by show X.env.scope.names.lookup _=_;rw [e];exact bX s5) (fun X e=>by show X.env.scope.names.lookup _=_;rw [e];exact bX s6) hr e0 hbd hfn hdeed hG hq
 | _=>cases hs
end
section
variable {P:Program} {w:World} {K:Frag} {mg:Str->Option Value} {base:Heap} {ad:Ad} {k:Nat} {tab:List (Str×SK.Gl)} {fns:List (Nat×Fn)} {sc:Scope} {qual x tn:Str} {fa P0 c:Addr} {s₁:Shared} {H:Hp} {F:Fn} {bs:List Str}
theorem aEa (B:ExcK K ad) (TB:cT P w K mg base ad k tab) (FB:eB P w K mg base ad k fns) (hs:bI (aB sc) [x] sc=true) (hr:Room (k+3) callerA)
  (told: ∃ ft fd dn,mg tn=some (.ref ft)/\PySem.W.keepIn K (.ref ft)=true/\pL P w K mg base ad (k+1) ft fd dn F/\ ∀ (s:Shared) (u:Value),K.In s.heap->BindsTo s fd ⟨[u],[]⟩ [(dn,u)])
  (tdb:(tn==("__debug__":Str))=false) (hC:PySem.W.CodeHd base c P0) (hB:base.BuiltinsAt mg P0) (mk: ∀ A ms,tab.lookup ("Rack":Str)=some (SK.Gl.cls A ms)-> ∃ f r fd ps,r<=k/\Mk K A f/\FnOk P w K mg base (CXe P w) r f fd ps (spI K ad A)/\dB K fd ps []):
  LawX (cxP P0 (kU (CXe P w) P w K mg base (aB sc) qual sc fa (.ref c) callerA [] s₁ H fun _ _ _=>False)) ad ⟨tab,fns,sc,aB sc,bs⟩ tn F P0 c ((envOfC qual sc s₁.heap.objs.size fa (.ref c)).qual++"<lambda>") k:=by
 obtain⟨S,nm⟩:=bW hs
 have hr2:Room (k+2) (callerA.deeper (envOfC qual sc s₁.heap.objs.size fa (.ref c))):=hr.deeper _
 let C:SK.Ctx:=⟨tab,fns,sc,aB sc,bs⟩
 have vis: ∀ x i,loc C x=some i->(aB sc)[i]? =some x/\Loc sc x/\x∈aB sc:=fun x i e=>by
  obtain⟨e1,e2⟩:=fN e
  refine⟨dC e1, ?_,fM e1⟩
  rcases e2 with e2 | e2 | e2
  ·exact .inl e2
  ·exact .inr e2
  ·exact absurd rfl (S.nofree _ (bY e2))
 have O:StOk (cxP P0 (kU (CXe P w) P w K mg base (aB sc) qual sc fa (.ref c) callerA [] s₁ H fun _ _ _=>False)) ad C:=by
  refine⟨⟨rfl,S.nd,fun x i e=> ?_,fun x e=>e,fun x g e=> ?_,fun x i e=> ?_,rfl, ?_,hr2.hd,B.exc,B.kin,B.kve,fun j m F' e=> ?_⟩,fun _=>rfl,rfl,fun x i e=>(vis x i e).2.1,B.exm,B.exi⟩
  ·obtain⟨a,b,c⟩:=vis x i e
   exact⟨a,b.elim .inl fun z=> .inr (.inl z),(nm x c).1,(nm x c).2⟩
  ·obtain⟨a,b⟩:=TB x g e
   refine⟨a, ?_⟩
   cases g with
   | fn j m F'=>
    obtain⟨r',f',h1,h2,h3,h4,h5⟩:=b
    exact⟨r',f',⟨h2,h3,h4⟩,hr2.mono (by omega),h5⟩
   | exc c=>exact b
   | verr=>exact b
   | val d=>exact b
   | py p=>exact b
   | cls A ms=>exact⟨b.1,b.2.1,fun m n M hm=>let ⟨no,f,r,fd,ps,h1,h2,h3,h4⟩:=b.2.2 m n M hm;⟨no,f,r,fd,ps,h2,h3,hr2.mono (by omega),h4⟩⟩
  ·obtain⟨e1,e2⟩:=cD e
   rcases e2 with e2 | e2
   ·exact .inl e2
   ·exact absurd rfl (S.nofree _ (bY e2))
  ·exact Nat.lt_of_le_of_lt (Nat.add_le_add_left (by decide:62<=64) _) hr2.units
  ·obtain⟨r',h1,h2,h3⟩:=FB j m F' e
   exact⟨r',⟨h2,h3⟩,hr2.mono (by omega)⟩
 exact⟨O,B,TB,FB,told,tdb,hr2, .head _,rfl,rfl,hC,hB,PassesOwn.leaving (Q₁:=fun e s''=>CXe P w [] H s₁ (fun _ _ _=>False) e s''),fun A ms e=>let ⟨f,r,fd,ps,h1,h2,h3,h4⟩:=mk A ms e;⟨f,r,fd,ps,h2,h3,hr2.mono (by omega),h4⟩⟩
end
noncomputable def without (K:Frag) (P0:Addr):Frag:=K.filter fun p=>p.1 != P0
section
variable {P:Program} {w:World} {K:Frag} {mg mb:Str->Option Value} {ad:Ad} {fa a P0 c:Addr} {s₁:Shared} {name qual x:Str} {params:Arguments} {body:List Stmt} {scope:Scope} {dV kV doc pm ct oc:Value} {an od:Option Addr} {osl:Array (Option Value)} {N:List Str}
  {tn q:Str} {F:Fn} {k n m:Nat} {C:SK.Ctx} {g:FS} {d:D} {vs:List Value} {ns:List Int}
theorem vH (KX:K.In s₁.heap) (hns:s₁.heap.Ns mainGlobals mg) (hb:s₁.heap.Ns builtinsNs mb) (hbb: ∀ x:Str,x≠"__name__"->mb x=bootBuiltins x) (hlim:s₁.heap.NoLimit) (hg:s₁.gens= #[])
  (ha:s₁.heap.get? a=some { cls:= .type "list",data:= .seq vs.toArray }) (hi:IntsAre vs ns) (hl:ns.length<=sizeLine)
  (lk:K.lookup fa=some ⟨oc,od, .func (PySem.W.fnOf name qual params body scope dV kV doc pm an (.ref c) ct),osl⟩) (hcd:PySem.W.codeIn K (.ref c) qual=true) (S:FnScope N [x] scope)
  (hbind: ∀ (s:Shared) (u:Value),BindsTo s (PySem.W.fnOf name qual params body scope dV kV doc pm an (.ref c) ct) ⟨[u],[]⟩ [(x,u)]) (hr:Room (k+3) callerA)
  (hC:PySem.W.CodeHd s₁.heap c P0) (hB:s₁.heap.BuiltinsAt mg P0) (hT:s₁.heap.get? P0=some (PySem.W.tabObj #[])) (hKP:K.lookup P0=none)
  (LX: ∀ (base:Heap) (H:Hp),K.In base->base.Ns mainGlobals mg->PySem.W.CodeHd base c P0->base.BuiltinsAt mg P0->LawX (cxP P0 (kU (CXe P w) P w K mg base N qual scope fa (.ref c) callerA [] s₁ H fun _ _ _=>False)) ad C tn F P0 c q k)
  (hread:lSs n tn F C body=some g) (hrep: ∀ H:Hp,aJv H->SqL K H a (ns.map V.int)-> ∃ G,Same G H/\aE K ad G [d] [.ref a]) (hN:N.length=m+1) (hm:g ([d].map SK.Slot.sh++ao m .no)= .rt (.ok (.bl true))):
  codeAny (model P w) callerA (.call (.ref fa) ⟨[.ref a],[]⟩) (fun r s'=>r= .ok (.ret (.bool true))/\OldK s₁.heap s'.heap/\s'.os=s₁.os/\AllBare s'.gens) s₁:=by
 have rv:=k9 hi
 have lenV:=hi.length
 cases hk:K.lookup a with
 | some o=>
  have e:=KX a o hk
  rw [ha] at e
  cases e
  obtain⟨G,hG,rp⟩:=hrep (fun _=>none) (fun _=> .inl rfl) (.inr ⟨_,vs.toArray,_,hk,rfl,rfl,rfl,by rw [ax,lenV];exact hl,by simpa using rv⟩)
  exact pO (H:=fun _=>none) KX hns hb hbb hlim hg lk hcd S hbind hr hC hB hT hKP (fun _=> .inl rfl) (fun b u z=>by have z':(none:Option HO)=some u:=z;cases z') (fun _ _ _ _ _ _=>rfl) (fun _ _ _=>rfl) rfl rfl (fun _ _ _ _=>rfl) (fun base=>LX base _) hread hG rp hN hm
 | none=>
  have ne: ∀ {b:Addr} {o:Obj},s₁.heap.get? b=some o->o.data≠ .seq vs.toArray->b≠a:=fun {b o} e z y=>by
   rw [y,ha] at e
   cases e
   exact z rfl
  let H:Hp:=fun b=>if b=a then some (.frz { cls:= .type "list",data:= .seq vs.toArray } (.lst (ns.map V.int))) else none
  have hno: ∀ {b:Addr},b≠a->H b=none:=fun z=>if_neg z
  have hO:aJv H:=fun b=>by
   by_cases hb:b=a
   ·exact .inr ⟨_,_,if_pos hb⟩
   ·exact .inl (if_neg hb)
  have hok:HOk P w H s₁.heap:=fun b u z=>by
   by_cases hb:b=a
   ·have z':=(if_pos hb).symm.trans z
    cases z'
    subst hb
    exact⟨ha,by rw [aq];exact hl,vs,_,rv,ha⟩
   ·have z':=(if_neg hb).symm.trans z
    cases z'
  obtain⟨G,hG,rp⟩:=hrep H hO (.inl (.inr ⟨{ cls:= .type "list",data:= .seq vs.toArray },if_pos rfl⟩))
  refine pO (H:=H) KX hns hb hbb hlim hg lk hcd S hbind hr hC hB hT hKP hO hok (fun b o es ep e z=>hno (ne e (by rw [z];exact fun y=>nomatch y))) (fun b o e=>hno fun y=>by rw [y,hk] at e;cases e) (hno (ne hT fun y=>nomatch y)) ?_ (fun bm o e z=>hno (ne e (by rw [z];exact fun y=>nomatch y))) (fun base=>LX base _) hread hG rp hN hm
  obtain⟨o,ws,_,_,_,_,_,_,_,e1,_,e3,_⟩:=hC
  exact hno (ne e1 (by rw [e3];exact fun y=>nomatch y))
end
theorem aIn {p:Program} {loose:List Str} {mean:ExcName->Option Value} {mg mb:Str->Option Value} {h:Heap} {P0:Addr} (T:Top p loose mean mg mb h) (hT:h.get? P0=some (PySem.W.tabObj #[])):h.BuiltinsAt mg P0:=by
 obtain⟨bm,ob,b1,b2,b3,b4,b5,b6⟩:=T.bmain
 refine⟨bm,ob,b1,b2,fun z=> ?_,fun z=> ?_,b3,b4,b5,b6⟩
 ·obtain⟨o,es,ep,e,hd,_⟩:=T.g
  rw [<-z,b3] at e
  cases e
  rw [b6] at hd
  cases hd
 ·rw [z,hT] at b3
  cases b3
  cases b6
structure LawT (P:Program) (w:World) (K:Frag) (mg:Str->Option Value) (fa:Addr) (name:Str) (ad:Ad) (C:SK.Ctx) (tn:Str) (F:Fn) (g:FS) (k n m:Nat) (c P0:Addr) (params:Arguments) (body:List Stmt) (scope:Scope):Prop where
 lk: ∃ oc od dV kV doc pm an ct osl,K.lookup fa=some ⟨oc,od, .func (PySem.W.fnOf name name params body scope dV kV doc pm an (.ref c) ct),osl⟩/\ ∀ (s:Shared) (u:Value),BindsTo s (PySem.W.fnOf name name params body scope dV kV doc pm an (.ref c) ct) ⟨[u],[]⟩ [("_law_script",u)]
 cd:PySem.W.codeIn K (.ref c) name=true
 sc:bI (aB scope) ["_law_script"] scope=true
 room:Room (k+3) callerA
 tab:tabIn K name=some (c,P0)
 out:K.lookup P0=none
 lx: ∀ (s₁:Shared) (base:Heap) (H:Hp),K.In base->base.Ns mainGlobals mg->PySem.W.CodeHd base c P0->base.BuiltinsAt mg P0->LawX (cxP P0 (kU (CXe P w) P w K mg base (aB scope) name scope fa (.ref c) callerA [] s₁ H fun _ _ _=>False)) ad C tn F P0 c ((envOfC name scope s₁.heap.objs.size fa (.ref c)).qual++"<lambda>") k
 read:lSs n tn F C body=some g
 len:(aB scope).length=m+1
 tru: ∀ ns:List Int,g ([D.lst (ns.map D.int)].map SK.Slot.sh++ao m .no)= .rt (.ok (.bl true))
theorem walkT {l:PySem.W.OpenLaw} {q:Program} {loose:List Str} {XP:(Str->Option Value)->Heap->Prop} {YP:World->Heap->Prop} {d:DefRec} {K:Params->PySem.W.Frag} (hn:l.most=some 63) (hdf:d.params.defaults=[])
  (hY: ∀ (w:World) (h:Heap),YP w h->(K w.params).In h) (hrec: ∃ e,(recsOf q).find? (fun e=>e.name==d.name)=some e)
  (F: ∀ (w:World) (mg:Str->Option Value) (fa:Addr) (h:Heap),(K w.params).In h->h.Ns mainGlobals mg->mg d.name=some (.ref fa)-> ∃ ad C tn F g k n m c P0 params body scope,LawT l.prog w (K w.params) mg fa d.name ad C tn F g k n m c P0 params body scope):
  PySem.W.WalkO q loose XP YP l.row.toRowW d [] (fun f vs=>PySem.call f vs):=by
 refine Att.attach_call hn hdf fun w s₀ s₁ mg mb fa o pm cd doc a vs ns G Y ho hd hcd hmg hobj hints hlen hg=> ?_
 have KX:=hY w _ Y
 obtain⟨ad,C,tn,F',g,k,n,m,c,P0,params,body,scope,L⟩:=F w mg fa _ KX G.T.g hmg
 obtain⟨e,he⟩:=hrec
 obtain⟨hC,hT⟩:=tab_of G.T KX he L.tab
 obtain⟨oc,od,dV,kV,doc',pm',an,ct,osl,lk,hb⟩:=L.lk
 refine vH (d:= .lst (ns.map D.int)) KX G.T.g G.T.b G.T.builtins G.T.nolimit hg hobj hints (Nat.le_trans hlen (by decide)) lk L.cd (bW L.sc).1 hb L.room hC (aIn G.T hT) hT L.out (fun base H=>L.lx s₁ base H) L.read (fun H _ hS=>⟨H,Same.refl _,aE.cons (by unfold Rep;exact⟨a,_,rfl,hS,aE.map_int⟩) aE.nil⟩) L.len (L.tru ns)
theorem eR {a b:FS} {ρ ρ':Rho} (h:a ρ= .nx ρ'):bE a b ρ=b ρ':=by simp [bE,h]
theorem vI {a b:FS} {ρ:Rho} {r:R} (h:a ρ= .rt r):bE a b ρ= .rt r:=by simp [bE,h]
theorem kA {i:Nat} {e:F} {ρ:Rho} {d:D} (h:e ρ= .ok d):mH i e ρ= .nx (ρ.set i (.sh d)):=by simp [mH,h,fE]
theorem nV {e:F} {ρ:Rho} {d:D} (h:e ρ= .ok d):cU e ρ= .rt (.ok d):=by simp [cU,h]
theorem aIo {c:F} {a b:FS} {ρ:Rho} (h:c ρ= .ok (.bl true)):sIf c a b ρ=a ρ:=by simp [sIf,h]
theorem aIp {c:F} {a b:FS} {ρ:Rho} (h:c ρ= .ok (.bl false)):sIf c a b ρ=b ρ:=by simp [sIf,h]
theorem nW {n:Nat} {b:FS} {ds:List D} {d:D} (h:b (ds.map Slot.sh++ao (n - ds.length) .no)= .rt (.ok d)):fnOf n b ds= .ok d:=by simp [fnOf,h]
theorem a8 {op:Operator} {a b:F} {ρ:Rho} {x y:D} (h:a ρ= .ok x) (k:b ρ= .ok y):bD op a b ρ=iN op x y:=by simp [bD,h,k,R.bind]
theorem vJ {op:CmpOp} {a b:F} {ρ:Rho} {x y:D} (h:a ρ= .ok x) (k:b ρ= .ok y):dQ op a b ρ=fX op x y:=by simp [dQ,h,k,R.bind]
theorem vK {a b:F} {ρ:Rho} {x y:D} (h:a ρ= .ok x) (k:b ρ= .ok y):rIx a b ρ=dIx x y:=by simp [rIx,h,k,R.bind]
theorem aAi {a b:F} {ρ:Rho} {x:List D} {y:D} (h:a ρ= .ow x) (k:b ρ= .ok y):rIx a b ρ=dIx (.lst x) y:=by simp [rIx,h,k,R.bind]
theorem vL {f:Fn} {a:F} {ρ:Rho} {x:D} (h:a ρ= .ok x):aH f [a] ρ=f [x]:=by simp [aH,mG,args,h,RA.cons,RA.then]
theorem aIq {f:Fn} {a b:F} {ρ:Rho} {x y:D} (h:a ρ= .ok x) (k:b ρ= .ok y):aH f [a,b] ρ=f [x,y]:=by simp [aH,mG,args,h,k,RA.cons,RA.then]
theorem vM {f:Fn} {a b c:F} {ρ:Rho} {x y z:D} (h:a ρ= .ok x) (k:b ρ= .ok y) (l:c ρ= .ok z):aH f [a,b,c] ρ=f [x,y,z]:=by simp [aH,mG,args,h,k,l,RA.cons,RA.then]
theorem iK {xs:List D} {n:Nat} {x:D} (h:xs[n]? =some x):dIx (.lst xs) (.int n)= .ok x:=by
 obtain⟨l,e⟩:=ay.1 h
 simp [dIx,items,ixD,l,e]
theorem aIr {i j:Int} (h:sml j=true):iN .Mult (.int i) (.int j)= .ok (.int (i * j)):=by simp [iN,cE,h]
theorem aEb {i j:Int} (h:0<j):iN .Mod (.int i) (.int j)= .ok (.int (i % j)):=by simp [iN,cE,h]
theorem mC {t:D->Rho->Option Rho} {b:FS} {I:Rho->Prop}: ∀ {ds:List D} {ρ:Rho},(∀ d∈ds, ∀ ρ,I ρ-> ∃ ρ1 ρ2,t d ρ=some ρ1/\b ρ1= .nx ρ2/\I ρ2)->I ρ-> ∃ ρ',cP t b ds ρ= .nx ρ'/\I ρ'
 | [],ρ,_,i=>⟨ρ,rfl,i⟩
 | d::r,ρ,h,i=>by
  obtain⟨ρ1,ρ2,a,e,j⟩:=h d (.head _) ρ i
  obtain⟨ρ',f,j'⟩:=mC (ds:=r) (fun x m=>h x (.tail _ m)) j
  exact⟨ρ',by simp [cP,a,e,f],j'⟩
theorem qW {xs:List D}:aY xs=true↔ ∀ x∈xs,plain x=true:=by
 induction xs with
 | nil=>simp [aY]
 | cons x r ih=>simp [aY,ih]
theorem aEc {x y:D} (a:plain x=true) (b:plain y=true) (c:dep y<=60):oF x y=true:=by
 have:min (dep x) (dep y)<=60:=Nat.le_trans (Nat.min_le_right ..) c
 simp [oF,a,b,this]
theorem aEd {x y:D} (h:oF x y=true):fX .Eq x y= .ok (.bl (deq x y)):=by simp [fX,h]
mutual
theorem yF: ∀ d:D,plain d=true->deq d d=true
 | .non,_=>rfl
 | .bl b,_=>by simp [deq]
 | .int i,_=>by simp [deq]
 | .str x,_=>by simp [deq]
 | .tup xs,h=>by simp only [deq];exact iL xs h
 | .lst xs,h=>by simp only [deq];exact iL xs h
 | .exc _,h=>by simp [plain] at h
 | .fn _,h=>by simp [plain] at h
theorem iL: ∀ xs:List D,aY xs=true->p9 xs xs=true
 | [],_=>rfl
 | x::r,h=>by
  simp only [aY,aw] at h
  simp [p9,yF x h.1,iL r h.2]
end
end SK
namespace SK.k74
open SK
noncomputable def aF:Fn:=fun ds=>aIb (fnOf 3 (bE (mH 1 (cJ [rIs (iR 9) (aD 0),rIs (iR 8) (aD 0),rIs (iR 3) (aD 0),rIs (iR 2) (aD 0)]))
 (bE (mH 1 (bD .Add (aD 1) (cJ [rIs (iR 5) (aD 0),rIs (iR 1) (aD 0),rIs (iR 7) (aD 0)])))
 (bE (mH 1 (bD .Add (aD 1) (cJ [rIs (iR 6) (aD 0),rIs (iR 4) (aD 0)])))
 (bE (sIf (rOr (dQ .NotEq (jI lG (aW 1) (rK (.bl true))) (rK (.int 1))) (qB (rIs (iR 100) (aD 0))))
 (bE (cU (rK (.str "wrong")))
  (aX))
 (aX))
 (bE (mH 2 (cJ [rK (.str "no back"),rK (.str "no label"),rK (.str "no move"),rK (.str "no name"),rK (.str "no sums"),rK (.str "no switch"),rK (.str "no term"),rK (.str "no text"),rK (.str "unlike")]))
 (bE (cU (rIx (aW 2) (jI lI (aW 1) (rK (.bl true)))))
 (aX))))))) ds)
noncomputable def d7:Fn:=fnOf 1 (cU (mW (rIs (aF9) (aD 0)) (qB (rIs (aBg) (aD 0)))))
noncomputable def bF:Fn:=fnOf 2 (cU (mW (aH d7 [aD 0]) (iW .LtE .Lt (rK (.int 0)) (aD 0) (aD 1))))
noncomputable def bL:Fn:=fnOf 2 (cU (aH aIy [eW 0 [1] (aW 0) none (aH bF [aD 0,aD 1])]))
noncomputable def fC:Fn:=fnOf 1 (cU (aH bF [aD 0,bD .Add (rK (.int 4)) (rK (.int 1))]))
noncomputable def gI:Fn:=fnOf 3 (cU (mW (rIs (oH) (aD 0)) (mW (dQ .Eq (aH q9 [aW 0]) (aD 1)) (aH bL [aD 0,aD 2]))))
noncomputable def bC:Fn:=fnOf 1 (cU (bD .LShift (rK (.int 1)) (aD 0)))
noncomputable def dN:Fn:=fnOf 1 (bE (sIf (rOr (qB (rIs (oH) (aD 0))) (rOr (dQ .NotEq (aH q9 [aW 0]) (rK (.int 2))) (qB (aH fC [rIx (aW 0) (rK (.int 0))]))))
 (cU (rK (.bl false)))
 (aX))
 (cU (aH gI [rIx (aW 0) (rK (.int 1)),aH bC [rIx (aW 0) (rK (.int 0))],rK (.int 2)])))
noncomputable def aU:Fn:=fnOf 1 (sIf (qB (aH dN [aD 0]))
 (iY 1)
 (aX))
noncomputable def bM:Fn:=fnOf 2 (bE (lJ (aH aU [aD 0]))
 (bE (lJ (aH aU [aD 1]))
 (sIf (dQ .NotEq (rIx (aW 0) (rK (.int 0))) (rIx (aW 1) (rK (.int 0))))
 (iY 4)
 (aX))))
noncomputable def gJ:Fn:=fnOf 1 (bE (lJ (aH aU [aD 0]))
 (cU (bS [rIx (aW 0) (rK (.int 0)),aH iX [eW 0 [] (rIx (aW 0) (rK (.int 1))) none (bD .Sub (rK (.int 1)) (aD 0))]])))
noncomputable def pR:Fn:=fnOf 2 (bE (lJ (aH bM [aD 0,aD 1]))
 (cU (bS [rIx (aW 0) (rK (.int 0)),aH iX [eW 2 [] (aEi (rIx (aW 0) (rK (.int 1))) (rIx (aW 1) (rK (.int 1)))) none (bD .BitAnd (aD 0) (aD 1))]])))
noncomputable def gK:Fn:=fnOf 2 (bE (lJ (aH bM [aD 0,aD 1]))
 (cU (bS [rIx (aW 0) (rK (.int 0)),aH iX [eW 2 [] (aEi (rIx (aW 0) (rK (.int 1))) (rIx (aW 1) (rK (.int 1)))) none (bD .BitOr (aD 0) (aD 1))]])))
noncomputable def gL:Fn:=fnOf 2 (bE (lJ (aH bM [aD 0,aD 1]))
 (cU (bS [rIx (aW 0) (rK (.int 0)),aH iX [eW 2 [] (aEi (rIx (aW 0) (rK (.int 1))) (rIx (aW 1) (rK (.int 1)))) none (bD .BitXor (aD 0) (aD 1))]])))
noncomputable def d8:Fn:=fnOf 1 (bE (sIf (rOr (qB (rIs (aGa) (aD 0))) (qB (iW .LtE .LtE (rK (.int 1)) (aH q9 [aW 0]) (rK (.int 4)))))
 (cU (rK (.bl false)))
 (aX))
 (cU (aH aIy [eW 0 [] (aW 0) none (iW .LtE .LtE (rK (.str "a")) (aD 0) (rK (.str "z")))])))
noncomputable def bN:Fn:=fnOf 1 (sIf (qB (aH d8 [aD 0]))
 (iY 8)
 (aX))
noncomputable def gM:Fn:=fnOf 3 (bE (sIf (dQ .Eq (aD 0) (rK (.str "both")))
 (cU (aH pR [aD 1,aD 2]))
 (aX))
 (bE (sIf (dQ .Eq (aD 0) (rK (.str "either")))
 (cU (aH gK [aD 1,aD 2]))
 (aX))
 (bE (sIf (dQ .Eq (aD 0) (rK (.str "unlike")))
 (cU (aH gL [aD 1,aD 2]))
 (aX))
 (iY 8))))
noncomputable def cO:Fn:=fnOf 2 (bE (sIf (dQ .Lt (aD 1) (aH q9 [aW 0]))
 (cU (rIx (aW 0) (aD 1)))
 (aX))
 (bE (sIf (dQ .Eq (aD 0) (cJ []))
 (cU (rK (.int 0)))
 (aX))
 (cU (bD .Add (bD .Mult (rIx (aW 0) (bD .Mod (aD 1) (aH q9 [aW 0]))) (rK (.int 31))) (aD 1)))))
noncomputable def aL:Fn:=fnOf 4 (bE (mH 3 (bD .Mod (bD .Mult (bD .Add (aH cO [aD 0,aD 1]) (bD .Mult (rK (.int 6151)) (bD .Add (aD 1) (rK (.int 1))))) (rK (.int 40692))) (rK (.int 2147483399))))
 (cU (bD .Mod (bD .Mod (bD .Add (bD .Mult (aD 3) (aD 3)) (bD .FloorDiv (aD 3) (rK (.int 31)))) (rK (.int 2147483629))) (aD 2))))
noncomputable def aR:FM:=nT 348 3 (cZ (mIf (dQ .Is (aD 2) (rK .non))
 (cZ (aC6 348 (aD 1))
  (cM))
 (cZ (aC5 348 (aD 1) (aD 2))
  (cM)))
 (cM))
noncomputable def mD:FM:=nT 348 4 (cZ (aHp 348 true (bS [aD 1,aD 2,wH 348 0 (aD 2),aD 3]))
 (cZ (uR 348)
 (cZ (j7 348 aR [aD 2,aD 3])
 (cM))))
noncomputable def dG:FM:=nT 348 4 (cZ (qP (aH aU [aD 2]))
 (cZ (qP (aH bN [aD 1]))
 (cZ (aEo 2 (aEj false 348 0 (aD 1)))
 (cZ (j7 348 mD [rK (.str "put"),aD 1,aD 2])
 (cZ (qQ (aD 3))
 (cM))))))
noncomputable def aG:FM:=nT 348 2 (cZ (qP (aH bN [aD 1]))
 (cZ (mIf (aEj true 348 0 (aD 1))
 (cZ (l7 8)
  (cM))
 (cM))
 (cZ (qQ (rX 348 0 (aD 1)))
 (cM))))
noncomputable def dA:FM:=nT 348 3 (cZ (aEo 1 (bQ 348 0 aG [aD 1]))
 (cZ (j7 348 mD [rK (.str "take"),aD 1,rK .non])
 (cZ (qQ (aD 2))
 (cM))))
noncomputable def b0:FM:=nT 348 6 (cZ (qP (aH bN [aD 1]))
 (cZ (aEo 4 (aH gM [aD 2,bQ 348 0 aG [aD 3],bQ 348 0 aG [aD 4]]))
 (cZ (j7 348 mD [rK (.str "join"),aD 1,aD 5])
 (cZ (qQ (aD 5))
 (cM)))))
noncomputable def dP:FM:=nT 348 3 (cZ (aEo 1 (aH gJ [bQ 348 0 aG [aD 1]]))
 (cZ (j7 348 mD [rK (.str "turn"),aD 1,aD 2])
 (cZ (qQ (aD 2))
 (cM))))
noncomputable def bT:FM:=nT 348 1 (cZ (qQ (aBd 348 0))
 (cM))
noncomputable def eK:FM:=nT 348 3 (cZ (aEo 1 (bQ 348 0 aG [aD 1]))
 (cZ (qQ (eW 0 [1,0,2] (bQ 348 0 bT []) (some (mW (dQ .NotEq (aD 0) (aD 1)) (dQ .Eq (rX 348 2 (aD 0)) (aD 3)))) (aD 0)))
 (cM)))
noncomputable def iM:FM:=nT 348 2 (cZ (mIf (dQ .Eq (yU 348 0 true) (cJ []))
 (cZ (l7 9)
  (cM))
 (cM))
 (cZ (xR 348 0 true)
 (cZ (aHp 348 false (aD 1))
 (cZ (j7 348 aR [rIx (aW 1) (rK (.int 1)),rIx (aW 1) (rK (.int 2))])
 (cZ (qQ (rIx (aW 1) (rK (.int 0))))
 (cM))))))
noncomputable def fR:FM:=nT 348 2 (cZ (mIf (dQ .Eq (yU 348 0 false) (cJ []))
 (cZ (l7 9)
  (cM))
 (cM))
 (cZ (xR 348 0 false)
 (cZ (aHp 348 true (aD 1))
 (cZ (j7 348 aR [rIx (aW 1) (rK (.int 1)),rIx (aW 1) (rK (.int 3))])
 (cZ (qQ (rIx (aW 1) (rK (.int 0))))
 (cM))))))
noncomputable def fD:FM:=nT 348 1 (cZ (qQ (bS [aH q9 [yU 348 0 true],aH q9 [yU 348 0 false]]))
 (cM))
noncomputable def yG:FS:=bE (vP 1 (cJ [rK .non,bS [],bS [rK (.int 5),bD .Mult (bS [rK (.int 0)]) (rK (.int 32))],bS [rK (.int 1),bS [rK (.int 0)]],bS [rK (.int 1),bS [rK (.int 0),rK (.int 2)]],bS [rK (.int 1),cJ [rK (.int 0),rK (.int 1)]],bS [rK (.bl true),bS [rK (.int 0),rK (.int 1)]],rK (.int 5)]))
 (bE (iO 1 (cJ [bS [rK (.int 0),bS [rK (.bl true)]],bS [rK (.int 2),bS [rK (.int 0),rK (.int 0),rK (.int 0)]]]))
 (bE (xY 6 348)
 (bE (vT 348 6 dG [rK (.str "a"),bS [rK (.int 1),bS [rK (.int 0),rK (.int 1)]]])
 (bE (vT 348 6 dG [rK (.str "b"),bS [rK (.int 2),bS [rK (.int 0),rK (.int 1),rK (.int 1),rK (.int 0)]]])
 (bE (vT 348 6 dP [rK (.str "a")])
 (bE (vT 348 6 iM [])
 (bE (wF [4] true (gX (rK (.int 4)))
 (bE (mH 7 (rIx (aW 1) (bD .Mod (bD .Add (aH aL [aD 0,rK (.int 0),rK (.int 10)]) (bD .Mult (rK (.int 3)) (aD 4))) (rK (.int 10)))))
  (bE (mH 5 (rIx (cJ [rK .non,rK (.str ""),rK (.str "A"),rK (.str "abcde"),rK (.int 5),bS [rK (.str "a")],rK (.str "a b"),rK (.str "a1")]) (bD .Mod (bD .Add (aH aL [aD 0,rK (.int 1),rK (.int 8)]) (bD .Mult (rK (.int 3)) (aD 4))) (rK (.int 8)))))
  (bE (mH 3 (rIx (cJ [rK (.str "c"),rK (.str "aa"),rK (.str "x"),rK (.str "none")]) (bD .Mod (bD .Add (aH aL [aD 0,rK (.int 2),rK (.int 4)]) (aD 4)) (rK (.int 4)))))
  (bE (sIf (dQ .NotEq (cG aF [4,5,6,7] (bQ 348 2 dG [rIx (cJ [aD 1,rK (.str "a")]) (bD .Mod (aD 0) (rK (.int 2))),aD 3])) (rK (.str "no switch")))
  (bE (cU (rK (.bl false)))
   (aX))
  (aX))
  (bE (vP 2 (cJ [cG aF [5,6] (bQ 348 1 dG [aD 0,bS [rK (.int 0),bS [rK (.int 0)]]])]))
  (bE (iZ 2 (cG aF [3,4,5,6] (bQ 348 3 dA [rIx (cJ [aD 2,aD 0]) (bD .Mod (aD 1) (rK (.int 2)))])))
  (bE (iZ 2 (cG aF [3,4,5,6] (bQ 348 3 aG [rIx (cJ [aD 0,aD 2]) (bD .Mod (aD 1) (rK (.int 2)))])))
  (bE (iZ 2 (cG aF [3,4,5,6] (bQ 348 3 dP [rIx (cJ [aD 2,aD 0]) (bD .Mod (aD 1) (rK (.int 2)))])))
  (bE (iZ 2 (cG aF [3,4,5,6] (bQ 348 3 eK [rIx (cJ [aD 0,aD 2]) (bD .Mod (aD 1) (rK (.int 2)))])))
  (bE (iZ 2 (cG aF [5,6] (bQ 348 1 b0 [aD 0,rK (.str "both"),rK (.str "a"),rK (.str "b")])))
  (bE (iZ 2 (cG aF [3,4,5,6] (bQ 348 3 b0 [rK (.str "c"),rK (.str "both"),rK (.str "a"),rIx (cJ [aD 2,aD 0]) (bD .Mod (aD 1) (rK (.int 2)))])))
  (bE (iZ 2 (cG aF [3,4,5,6] (bQ 348 3 b0 [rK (.str "c"),rK (.str "unlike"),rIx (cJ [aD 2,aD 0]) (bD .Mod (aD 1) (rK (.int 2))),rK (.str "b")])))
  (bE (sIf (rOr (dQ .NotEq (aW 2) (bD .Mult (cJ [rK (.str "no label")]) (rK (.int 8)))) (dQ .NotEq (cG aF [6] (bQ 348 0 b0 [rK (.str "c"),rK (.str "either"),rK (.str "b"),rK (.str "a")])) (rK (.str "unlike"))))
  (bE (cU (rK (.bl false)))
   (aX))
  (aX))
  (aX)))))))))))))))
 (bE (aEp (cOr (mI 348 6 bT [] .NotEq (cJ [rK (.str "a"),rK (.str "b")])) (cOr (mI 348 6 fD [] .NotEq (bS [rK (.int 2),rK (.int 1)])) (mI 348 6 fR [] .NotEq (rK (.str "turn")))))
 (cU (rK (.bl false)))
 (aX))
 (bE (aEp (cOr (mI 348 6 aG [rK (.str "a")] .NotEq (bS [rK (.int 1),bS [rK (.int 1),rK (.int 0)]])) (mI 348 6 b0 [rK (.str "a"),rK (.str "unlike"),rK (.str "b"),rK (.str "b")] .NotEq (bS [rK (.int 2),bS [rK (.int 0),rK (.int 0),rK (.int 0),rK (.int 0)]])))
 (cU (rK (.bl false)))
 (aX))
 (bE (xZ (mI 348 6 dA [rK (.str "b")] .Eq (bS [rK (.int 2),bS [rK (.int 0),rK (.int 1),rK (.int 1),rK (.int 0)]])) (mW (dQ .Eq (bQ 348 6 bT []) (cJ [rK (.str "a")])) (dQ .Eq (bQ 348 6 eK [rK (.str "a")]) (cJ []))))
 (aX)))))))))))
open PySem
noncomputable abbrev Sc (ns:List Int):D:= .lst (ns.map D.int)
theorem yH (ns:List Int):plain (Sc ns)=true:=by
 show aY (ns.map D.int)=true
 rw [qW];intro x m;obtain⟨i,_,rfl⟩:=au.1 m;rfl
noncomputable def qY (ns:List Int) (k:Nat):Int:=if k<ns.length then ns.getD k 0 else if ns=[] then 0 else ns.getD (k % ns.length) 0 * 31+k
theorem aEe (ns:List Int) (k:Nat):cO [Sc ns, .int k]= .ok (.int (qY ns k)):=by
 have h0:q9 [Sc ns]= .ok (.int ns.length):=by simp [q9,items]
 by_cases h:k<ns.length
 ·have e:(ns.map D.int)[k]? =some (D.int (qY ns k)):=by simp [qY,h]
  refine nW (vI ((aIo ?_).trans (nV ((vK rfl rfl).trans (iK e)))))
  refine(vJ rfl ((vL rfl).trans h0)).trans ?_
  simp [fX,h]
 ·refine nW ((eR ((aIp ((vJ rfl ((vL rfl).trans h0)).trans ?_)).trans rfl)).trans ?_)
  ·simp [fX];omega
  have he:dQ .Eq (aD 0) (cJ []) [.sh (Sc ns), .sh (.int k)]= .ok (.bl (decide (ns=[]))):=by
   show fX .Eq (Sc ns) (.lst [])=_
   rw [aEd (aEc (yH ns) rfl (by decide))]
   cases ns<;>simp [deq,p9]
  by_cases h1:ns=[]
  ·subst h1
   exact vI ((aIo (he.trans rfl)).trans rfl)
  ·refine(eR ((aIp (he.trans (by simp [h1]))).trans rfl)).trans (nV ?_)
   have l:0<ns.length:=List.length_pos_iff.2 h1
   have e:(ns.map D.int)[k % ns.length]? =some (D.int (ns.getD (k % ns.length) 0)):=by simp [Nat.mod_lt _ l]
   have e2:iN .Mod (.int k) (.int ns.length)= .ok (.int ((k % ns.length:Nat):Int)):=by
    have:(0:Int)<ns.length:=by omega
    simp [iN,cE,this];omega
   refine(a8 ((a8 ((vK rfl ((a8 rfl ((vL rfl).trans h0)).trans e2)).trans (iK e)) rfl).trans (aIr rfl)) rfl).trans ?_
   simp [iN,cE,qY,h,h1]
noncomputable def eL (ns:List Int) (k:Nat):Int:=(qY ns k+6151 * (k+1)) * 40692 % 2147483399
noncomputable def vN (ns:List Int) (k:Nat) (m:Int):Int:=(eL ns k * eL ns k+eL ns k / 31) % 2147483629 % m
theorem aEf (ns:List Int) (k:Nat) {m:Int} (hm:0<m):aL [Sc ns, .int k, .int m]= .ok (.int (vN ns k m)):=by
 have h1:bD .Mod (bD .Mult (bD .Add (aH cO [aD 0,aD 1]) (bD .Mult (rK (.int 6151)) (bD .Add (aD 1) (rK (.int 1))))) (rK (.int 40692))) (rK (.int 2147483399)) [.sh (Sc ns), .sh (.int k), .sh (.int m), .no]= .ok (.int (eL ns k)):=by
  refine(a8 ((a8 ((a8 ((aIq rfl rfl).trans (aEe ns k)) (y:= .int (6151 * (k+1))) ?_).trans rfl) rfl).trans (?_:_=R.ok (.int ((qY ns k+6151 * (k+1)) * 40692)))) rfl).trans ?_
  ·refine(a8 rfl rfl).trans ?_;simp [iN,cE,sml]
  ·simp [iN,cE,sml]
  ·simp [iN,cE,eL]
 refine nW ((eR (kA h1)).trans (nV ?_))
 unfold vN
 have hs:sml (eL ns k)=true:=by
  have:0<=eL ns k/\eL ns k<2147483399:=by unfold eL;omega
  simp [sml];omega
 generalize eL ns k=x at *
 have h2:bD .FloorDiv (aD 3) (rK (.int 31)) [.sh (Sc ns), .sh (.int k), .sh (.int m), .sh (.int (x))]= .ok (.int (x / 31)):=by
  refine(a8 rfl rfl).trans ?_;simp [iN,cE]
 have h3:bD .Mult (aD 3) (aD 3) [.sh (Sc ns), .sh (.int k), .sh (.int m), .sh (.int x)]= .ok (.int (x * x)):=by
  refine(a8 rfl rfl).trans ?_;simp [iN,cE,hs]
 refine(a8 ((a8 ((a8 h3 h2).trans rfl) rfl).trans (?_:_=R.ok (.int ((x * x+x / 31) % 2147483629)))) rfl).trans ?_
 ·simp [iN,cE]
 ·exact aEb hm
theorem nX (ns:List Int) (k:Nat) {m:Int} (hm:0<m):0<=vN ns k m/\vN ns k m<m:=⟨Int.emod_nonneg _ (by omega),Int.emod_lt_of_pos _ hm⟩
theorem kB (ns:List Int) (k:Nat) {m:Nat} (hm:0<m): ∃ p:Nat,aL [Sc ns, .int k, .int m]= .ok (.int p)/\p<m:=by
 obtain⟨h1,h2⟩:=nX ns k (m:=m) (by omega)
 refine⟨(vN ns k m).toNat, ?_,by omega⟩
 rw [aEf ns k (by omega),Int.toNat_of_nonneg h1]
noncomputable def odd:List D:=[.non, .tup [], .tup [.int 5, .tup (ao 32 (.int 0))], .tup [.int 1, .tup [.int 0]], .tup [.int 1, .tup [.int 0, .int 2]], .tup [.int 1, .lst [.int 0, .int 1]], .tup [.bl true, .tup [.int 0, .int 1]], .int 5, .tup [.int 0, .tup [.bl true]], .tup [.int 2, .tup [.int 0, .int 0, .int 0]]]
noncomputable def lab:List D:=[.non, .str "", .str "A", .str "abcde", .int 5, .tup [.str "a"], .str "a b", .str "a1"]
noncomputable def gon:List D:=[.str "c", .str "aa", .str "x", .str "none"]
noncomputable def sa:D:= .tup [.int 1, .tup [.int 0, .int 1]]
noncomputable def sb:D:= .tup [.int 2, .tup [.int 0, .int 1, .int 1, .int 0]]
noncomputable def rk1:Rk:=⟨[("a",sa),("b",sb)],[.tup [.str "put", .str "a", .non,sa], .tup [.str "put", .str "b", .non,sb]],[.tup [.str "turn", .str "a",sa, .tup [.int 1, .tup [.int 1, .int 0]]]]⟩
noncomputable abbrev r1 (s0 s2 s3 s4 s5 s7:Slot):Rho:=[s0, .ow odd,s2,s3,s4,s5, .rk 348 rk1,s7]
noncomputable def qZ:List FS->FS->FS
 | [],k=>k
 | a::r,k=>bE a (qZ r k)
theorem nY {k:FS}: ∀ {l:List FS} {ρ ρ':Rho},qZ l aX ρ= .nx ρ'->qZ l k ρ=k ρ'
 | [],ρ,ρ',h=>by cases h;rfl
 | a::r,ρ,ρ',h=>by
  have h':bE a (qZ r aX) ρ= .nx ρ':=h
  show bE a (qZ r k) ρ=k ρ'
  unfold bE at h' ⊢
  cases e:a ρ with
  | nx ρ1=>rw [e] at h';exact nY h'
  | rt _=>rw [e] at h';cases h'
  | bk _=>rw [e] at h';cases h'
  | ct _=>rw [e] at h';cases h'
  | ex _ _=>rw [e] at h';cases h'
noncomputable def lH:List FS:=[vP 1 (cJ [rK .non,bS [],bS [rK (.int 5),bD .Mult (bS [rK (.int 0)]) (rK (.int 32))],bS [rK (.int 1),bS [rK (.int 0)]],bS [rK (.int 1),bS [rK (.int 0),rK (.int 2)]],bS [rK (.int 1),cJ [rK (.int 0),rK (.int 1)]],bS [rK (.bl true),bS [rK (.int 0),rK (.int 1)]],rK (.int 5)]),
 iO 1 (cJ [bS [rK (.int 0),bS [rK (.bl true)]],bS [rK (.int 2),bS [rK (.int 0),rK (.int 0),rK (.int 0)]]]),
 xY 6 348,
 vT 348 6 dG [rK (.str "a"),bS [rK (.int 1),bS [rK (.int 0),rK (.int 1)]]],
 vT 348 6 dG [rK (.str "b"),bS [rK (.int 2),bS [rK (.int 0),rK (.int 1),rK (.int 1),rK (.int 0)]]],
 vT 348 6 dP [rK (.str "a")],
 vT 348 6 iM []]
noncomputable def st7:FS:=mH 7 (rIx (aW 1) (bD .Mod (bD .Add (aH aL [aD 0,rK (.int 0),rK (.int 10)]) (bD .Mult (rK (.int 3)) (aD 4))) (rK (.int 10))))
noncomputable def st5:FS:=mH 5 (rIx (cJ [rK .non,rK (.str ""),rK (.str "A"),rK (.str "abcde"),rK (.int 5),bS [rK (.str "a")],rK (.str "a b"),rK (.str "a1")]) (bD .Mod (bD .Add (aH aL [aD 0,rK (.int 1),rK (.int 8)]) (bD .Mult (rK (.int 3)) (aD 4))) (rK (.int 8))))
noncomputable def st3:FS:=mH 3 (rIx (cJ [rK (.str "c"),rK (.str "aa"),rK (.str "x"),rK (.str "none")]) (bD .Mod (bD .Add (aH aL [aD 0,rK (.int 2),rK (.int 4)]) (aD 4)) (rK (.int 4))))
noncomputable def lA:List FS:=[sIf (dQ .NotEq (cG aF [4,5,6,7] (bQ 348 2 dG [rIx (cJ [aD 1,rK (.str "a")]) (bD .Mod (aD 0) (rK (.int 2))),aD 3])) (rK (.str "no switch"))) (bE (cU (rK (.bl false))) (aX)) (aX)]
noncomputable def lB:List FS:=[vP 2 (cJ [cG aF [5,6] (bQ 348 1 dG [aD 0,bS [rK (.int 0),bS [rK (.int 0)]]])]),
 iZ 2 (cG aF [3,4,5,6] (bQ 348 3 dA [rIx (cJ [aD 2,aD 0]) (bD .Mod (aD 1) (rK (.int 2)))])),
 iZ 2 (cG aF [3,4,5,6] (bQ 348 3 aG [rIx (cJ [aD 0,aD 2]) (bD .Mod (aD 1) (rK (.int 2)))])),
 iZ 2 (cG aF [3,4,5,6] (bQ 348 3 dP [rIx (cJ [aD 2,aD 0]) (bD .Mod (aD 1) (rK (.int 2)))])),
 iZ 2 (cG aF [3,4,5,6] (bQ 348 3 eK [rIx (cJ [aD 0,aD 2]) (bD .Mod (aD 1) (rK (.int 2)))])),
 iZ 2 (cG aF [5,6] (bQ 348 1 b0 [aD 0,rK (.str "both"),rK (.str "a"),rK (.str "b")])),
 iZ 2 (cG aF [3,4,5,6] (bQ 348 3 b0 [rK (.str "c"),rK (.str "both"),rK (.str "a"),rIx (cJ [aD 2,aD 0]) (bD .Mod (aD 1) (rK (.int 2)))])),
 iZ 2 (cG aF [3,4,5,6] (bQ 348 3 b0 [rK (.str "c"),rK (.str "unlike"),rIx (cJ [aD 2,aD 0]) (bD .Mod (aD 1) (rK (.int 2))),rK (.str "b")])),
 sIf (rOr (dQ .NotEq (aW 2) (bD .Mult (cJ [rK (.str "no label")]) (rK (.int 8)))) (dQ .NotEq (cG aF [6] (bQ 348 0 b0 [rK (.str "c"),rK (.str "either"),rK (.str "b"),rK (.str "a")])) (rK (.str "unlike")))) (bE (cU (rK (.bl false))) (aX)) (aX)]
noncomputable def dW:FS:=qZ lA (qZ lB aX)
noncomputable def tl:FS:=qZ [aEp (cOr (mI 348 6 bT [] .NotEq (cJ [rK (.str "a"),rK (.str "b")])) (cOr (mI 348 6 fD [] .NotEq (bS [rK (.int 2),rK (.int 1)])) (mI 348 6 fR [] .NotEq (rK (.str "turn"))))) (cU (rK (.bl false))) (aX),
 aEp (cOr (mI 348 6 aG [rK (.str "a")] .NotEq (bS [rK (.int 1),bS [rK (.int 1),rK (.int 0)]])) (mI 348 6 b0 [rK (.str "a"),rK (.str "unlike"),rK (.str "b"),rK (.str "b")] .NotEq (bS [rK (.int 2),bS [rK (.int 0),rK (.int 0),rK (.int 0),rK (.int 0)]]))) (cU (rK (.bl false))) (aX),
 xZ (mI 348 6 dA [rK (.str "b")] .Eq (bS [rK (.int 2),bS [rK (.int 0),rK (.int 1),rK (.int 1),rK (.int 0)]])) (mW (dQ .Eq (bQ 348 6 bT []) (cJ [rK (.str "a")])) (dQ .Eq (bQ 348 6 eK [rK (.str "a")]) (cJ [])))] aX
theorem tH (s0:Slot):qZ lH aX [s0, .no, .no, .no, .no, .no, .no, .no]= .nx (r1 s0 .no .no .no .no .no):=by kernel_rfl
theorem tA (s0 s2 s3:Slot):((List.range 320).map fun i=>qZ lA aX (r1 s0 s2 s3 (.sh (.int (i / 80:Nat))) (.sh (lab.getD (i % 8) .non)) (.sh (odd.getD (i / 8 % 10) .non))))=(List.range 320).map fun i=>Out.nx (r1 s0 s2 s3 (.sh (.int (i / 80:Nat))) (.sh (lab.getD (i % 8) .non)) (.sh (odd.getD (i / 8 % 10) .non))):=by kernel_rfl
theorem tB (s0 s2 s7:Slot):((List.range 128).map fun i=>qZ lB aX (r1 s0 s2 (.sh (gon.getD (i / 8 % 4) .non)) (.sh (.int (i / 32:Nat))) (.sh (lab.getD (i % 8) .non)) s7))=(List.range 128).map fun i=>Out.nx (r1 s0 (.ow (ao 8 (.str "no label"))) (.sh (gon.getD (i / 8 % 4) .non)) (.sh (.int (i / 32:Nat))) (.sh (lab.getD (i % 8) .non)) s7):=by kernel_rfl
theorem aIs (s0 s2 s3 s4 s5 s7:Slot):tl (r1 s0 s2 s3 s4 s5 s7)= .rt (.ok (.bl true)):=by kernel_rfl
theorem k4 {k:Nat} (hk:k<4):k=0\/k=1\/k=2\/k=3:=by omega
theorem yI (ns:List Int) {k:Nat} (hk:k<4) {s1 s2 s3 s5 s6 s7:Slot}: ∃ a:Nat,a<10/\bD .Mod (bD .Add (aH aL [aD 0,rK (.int 0),rK (.int 10)]) (bD .Mult (rK (.int 3)) (aD 4))) (rK (.int 10)) [.sh (Sc ns),s1,s2,s3, .sh (.int k),s5,s6,s7]= .ok (.int (a:Nat)):=by
 obtain⟨p,ep,lp⟩:=kB ns 0 (m:=10) (by decide)
 have h1:aH aL [aD 0,rK (.int 0),rK (.int 10)] [.sh (Sc ns),s1,s2,s3, .sh (.int k),s5,s6,s7]= .ok (.int (p:Nat)):=(vM (y:= .int ((0:Nat):Int)) (z:= .int ((10:Nat):Int)) rfl rfl rfl).trans ep
 have h2:bD .Mult (rK (.int 3)) (aD 4) [.sh (Sc ns),s1,s2,s3, .sh (.int k),s5,s6,s7]= .ok (.int (3 * k)):=by
  refine(a8 rfl rfl).trans ?_
  rcases k4 hk with rfl | rfl | rfl | rfl<;>rfl
 refine⟨(p+3 * k) % 10,Nat.mod_lt _ (by decide),(a8 ((a8 h1 h2).trans (show _=R.ok (.int (p+3 * k:Nat)) from ?_)) rfl).trans ?_⟩
 ·simp [iN,cE]
 ·simp [iN,cE]
theorem aIt (ns:List Int) {k:Nat} (hk:k<4) {s1 s2 s3 s5 s6 s7:Slot}: ∃ a:Nat,a<8/\bD .Mod (bD .Add (aH aL [aD 0,rK (.int 1),rK (.int 8)]) (bD .Mult (rK (.int 3)) (aD 4))) (rK (.int 8)) [.sh (Sc ns),s1,s2,s3, .sh (.int k),s5,s6,s7]= .ok (.int (a:Nat)):=by
 obtain⟨p,ep,lp⟩:=kB ns 1 (m:=8) (by decide)
 have h1:aH aL [aD 0,rK (.int 1),rK (.int 8)] [.sh (Sc ns),s1,s2,s3, .sh (.int k),s5,s6,s7]= .ok (.int (p:Nat)):=(vM (y:= .int ((1:Nat):Int)) (z:= .int ((8:Nat):Int)) rfl rfl rfl).trans ep
 have h2:bD .Mult (rK (.int 3)) (aD 4) [.sh (Sc ns),s1,s2,s3, .sh (.int k),s5,s6,s7]= .ok (.int (3 * k)):=by
  refine(a8 rfl rfl).trans ?_
  rcases k4 hk with rfl | rfl | rfl | rfl<;>rfl
 refine⟨(p+3 * k) % 8,Nat.mod_lt _ (by decide),(a8 ((a8 h1 h2).trans (show _=R.ok (.int (p+3 * k:Nat)) from ?_)) rfl).trans ?_⟩
 ·simp [iN,cE]
 ·simp [iN,cE]
theorem aIu (ns:List Int) {k:Nat} {s1 s2 s3 s5 s6 s7:Slot}: ∃ a:Nat,a<4/\bD .Mod (bD .Add (aH aL [aD 0,rK (.int 2),rK (.int 4)]) (aD 4)) (rK (.int 4)) [.sh (Sc ns),s1,s2,s3, .sh (.int k),s5,s6,s7]= .ok (.int (a:Nat)):=by
 obtain⟨p,ep,lp⟩:=kB ns 2 (m:=4) (by decide)
 have h1:aH aL [aD 0,rK (.int 2),rK (.int 4)] [.sh (Sc ns),s1,s2,s3, .sh (.int k),s5,s6,s7]= .ok (.int (p:Nat)):=(vM (y:= .int ((2:Nat):Int)) (z:= .int ((4:Nat):Int)) rfl rfl rfl).trans ep
 refine⟨(p+k) % 4,Nat.mod_lt _ (by decide),(a8 ((a8 h1 rfl).trans (show _=R.ok (.int (p+k:Nat)) from ?_)) rfl).trans ?_⟩
 ·simp [iN,cE]
 ·simp [iN,cE]
theorem aEg {l:List D} {a:Nat} (h:a<l.length):l[a]? =some (l.getD a .non):=by simp [h]
theorem step (ns:List Int) {k:Nat} (hk:k<4) (s2 s3 s5 s7:Slot): ∃ s2' s3' s5' s7',bE st7 (bE st5 (bE st3 dW)) (r1 (.sh (Sc ns)) s2 s3 (.sh (.int (k:Nat))) s5 s7)= .nx (r1 (.sh (Sc ns)) s2' s3' (.sh (.int (k:Nat))) s5' s7'):=by
 obtain⟨a,la,ea⟩:=yI ns hk (s1:= .ow odd) (s2:=s2) (s3:=s3) (s5:=s5) (s6:= .rk 348 rk1) (s7:=s7)
 obtain⟨b,lb,eb⟩:=aIt ns hk (s1:= .ow odd) (s2:=s2) (s3:=s3) (s5:=s5) (s6:= .rk 348 rk1) (s7:= .sh (odd.getD a .non))
 obtain⟨c,lc,ec⟩:=aIu ns (k:=k) (s1:= .ow odd) (s2:=s2) (s3:=s3) (s5:= .sh (lab.getD b .non)) (s6:= .rk 348 rk1) (s7:= .sh (odd.getD a .non))
 have h1:st7 (r1 (.sh (Sc ns)) s2 s3 (.sh (.int (k:Nat))) s5 s7)= .nx (r1 (.sh (Sc ns)) s2 s3 (.sh (.int (k:Nat))) s5 (.sh (odd.getD a .non))):=kA ((vK rfl ea).trans (iK (aEg (l:=odd) la)))
 have h2:st5 (r1 (.sh (Sc ns)) s2 s3 (.sh (.int (k:Nat))) s5 (.sh (odd.getD a .non)))= .nx (r1 (.sh (Sc ns)) s2 s3 (.sh (.int (k:Nat))) (.sh (lab.getD b .non)) (.sh (odd.getD a .non))):=kA ((aAi rfl eb).trans (iK (aEg (l:=lab) lb)))
 have h3:st3 (r1 (.sh (Sc ns)) s2 s3 (.sh (.int (k:Nat))) (.sh (lab.getD b .non)) (.sh (odd.getD a .non)))= .nx (r1 (.sh (Sc ns)) s2 (.sh (gon.getD c .non)) (.sh (.int (k:Nat))) (.sh (lab.getD b .non)) (.sh (odd.getD a .non))):=kA ((aAi rfl ec).trans (iK (aEg (l:=gon) lc)))
 have hA:=(List.map_inj_left.mp (tA (.sh (Sc ns)) s2 (.sh (gon.getD c .non)))) (k * 80+a * 8+b) (zPd (by omega))
 rw [show(k * 80+a * 8+b) / 80=k by omega,show(k * 80+a * 8+b) % 8=b by omega,show(k * 80+a * 8+b) / 8 % 10=a by omega] at hA
 have hA:=nY (k:=qZ lB aX) hA
 have hB:=(List.map_inj_left.mp (tB (.sh (Sc ns)) s2 (.sh (odd.getD a .non)))) (k * 32+c * 8+b) (zPd (by omega))
 rw [show(k * 32+c * 8+b) / 32=k by omega,show(k * 32+c * 8+b) % 8=b by omega,show(k * 32+c * 8+b) / 8 % 4=c by omega] at hB
 exact⟨_,_,_,_,(eR h1).trans ((eR h2).trans ((eR h3).trans (hA.trans hB)))⟩
theorem aLe (ns:List Int):yG ([D.lst (ns.map D.int)].map SK.Slot.sh++ao 7 .no)= .rt (.ok (.bl true)):=by
 obtain⟨ρ',e,s2,s3,s4,s5,s7,hρ⟩:=mC (t:=iP [4] true) (b:=bE st7 (bE st5 (bE st3 dW))) (I:=fun ρ=> ∃ s2 s3 s4 s5 s7,ρ=r1 (.sh (Sc ns)) s2 s3 s4 s5 s7) (ds:=(List.range 4).map fun(k:Nat)=>D.int (k:Int)) (ρ:=r1 (.sh (Sc ns)) .no .no .no .no .no) (fun d hd ρ hI=>by
  obtain⟨k,hk,rfl⟩:=au.mp hd
  obtain⟨s2,s3,s4,s5,s7,rfl⟩:=hI
  obtain⟨s2',s3',s5',s7',e⟩:=step ns (zRd hk) s2 s3 s5 s7
  exact⟨_,_,rfl,e,_,_,_,_,_,rfl⟩) ⟨_,_,_,_,_,rfl⟩
 subst hρ
 have h0:yG=qZ lH (bE (wF [4] true (gX (rK (.int 4))) (bE st7 (bE st5 (bE st3 dW)))) tl):=by rfl
 show yG [.sh (Sc ns), .no, .no, .no, .no, .no, .no, .no]=_
 rw [h0]
 refine(nY (tH (.sh (Sc ns)))).trans ((eR (show wF [4] true (gX (rK (.int 4))) (bE st7 (bE st5 (bE st3 dW))) (r1 (.sh (Sc ns)) .no .no .no .no .no)= .nx _ from e)).trans (aIs _ _ _ _ _ _))
open PySem.Spec PyProof.Rows L2 PySem.W
noncomputable abbrev KK (w:World):PySem.W.Frag:=kK w.params
noncomputable abbrev ge (x:Str) (g:SK.Gl):Str×SK.Gl:=(x,g)
noncomputable def tbL:List (Str×SK.Gl):=[ge "Rack" (.cls 348 [("counts",0,fD),("forth",0,fR),("back",0,iM),("like",1,eK),("labels",0,bT),("turn",1,dP),("join",4,b0),("take",1,dA),("switch_of",1,aG),("put",2,dG),("do",3,mD),("set_to",2,aR)]),ge "Rack" (.cls 348 [("forth",0,fR),("back",0,iM),("like",1,eK),("labels",0,bT),("turn",1,dP),("join",4,b0),("take",1,dA),("switch_of",1,aG),("put",2,dG),("do",3,mD),("set_to",2,aR)]),ge "Rack" (.cls 348 [("back",0,iM),("like",1,eK),("labels",0,bT),("turn",1,dP),("join",4,b0),("take",1,dA),("switch_of",1,aG),("put",2,dG),("do",3,mD),("set_to",2,aR)]),ge "Rack" (.cls 348 [("like",1,eK),("labels",0,bT),("turn",1,dP),("join",4,b0),("take",1,dA),("switch_of",1,aG),("put",2,dG),("do",3,mD),("set_to",2,aR)]),ge "Rack" (.cls 348 [("labels",0,bT),("turn",1,dP),("join",4,b0),("take",1,dA),("switch_of",1,aG),("put",2,dG),("do",3,mD),("set_to",2,aR)]),ge "Rack" (.cls 348 [("turn",1,dP),("join",4,b0),("take",1,dA),("switch_of",1,aG),("put",2,dG),("do",3,mD),("set_to",2,aR)]),ge "Rack" (.cls 348 [("join",4,b0),("take",1,dA),("switch_of",1,aG),("put",2,dG),("do",3,mD),("set_to",2,aR)]),ge "Rack" (.cls 348 [("take",1,dA),("switch_of",1,aG),("put",2,dG),("do",3,mD),("set_to",2,aR)]),ge "Rack" (.cls 348 [("switch_of",1,aG),("put",2,dG),("do",3,mD),("set_to",2,aR)]),ge "Rack" (.cls 348 [("put",2,dG),("do",3,mD),("set_to",2,aR)]),ge "Rack" (.cls 348 [("do",3,mD),("set_to",2,aR)]),ge "Rack" (.cls 348 [("set_to",2,aR)]),ge "Rack" (.cls 348 []),ge "_law_pick" (.fn 17 3 aL),ge "_law_cell" (.fn 16 2 cO),ge "joined" (.fn 15 3 gM),ge "check_label" (.fn 14 1 bN),ge "is_label" (.fn 13 1 d8),ge "unlike" (.fn 12 2 gL),ge "either" (.fn 11 2 gK),ge "both" (.fn 10 2 pR),ge "turned" (.fn 9 1 gJ),ge "check_alike" (.fn 8 2 bM),ge "check_switch" (.fn 7 1 aU),ge "is_switch" (.fn 6 1 dN),ge "how_many_settings" (.fn 5 1 bC),ge "is_row" (.fn 4 3 gI),ge "is_many" (.fn 3 1 fC),ge "are_whole_below" (.fn 2 2 bL),ge "is_whole_below" (.fn 1 2 bF),ge "is_whole" (.fn 0 1 d7),ge (cS .sorted) (.py .sorted),ge (cS .all) (.py .all),ge (cS .tuple) (.py .tuple),ge (cS .str) (.py .str),ge (cS .bool) (.py .bool),ge (cS .int) (.py .int),ge (cS .isin) (.py .isin),ge (cS .zip) (.py .zip),ge (cS .range) (.py .range),ge (cS .len) (.py .len),ge "ValueError" .verr,ge "NoBack" (.exc 9),ge "NoLabel" (.exc 8),ge "NoTerm" (.exc 7),ge "NoText" (.exc 6),ge "NoSums" (.exc 5),ge "Unlike" (.exc 4),ge "NoMove" (.exc 3),ge "NoName" (.exc 2),ge "NoSwitch" (.exc 1),ge "SwitchError" (.exc 0),ge "LONGEST_LABEL" (.val (.int 4)),ge "MOST_NAMES" (.val (.int 4))]
noncomputable def flL:List (Nat×Fn):=[(1,d7),(2,bF),(2,bL),(1,fC),(3,gI),(1,bC),(1,dN),(1,aU),(2,bM),(1,gJ),(2,pR),(2,gK),(2,gL),(1,d8),(1,bN),(3,gM),(2,cO),(3,aL)]
set_option maxHeartbeats 0 in
theorem all_mk {l:PySem.W.OpenLaw} {w:World} {h:Heap} {mg:Str->Option Value} {fa:Addr} (X:(KK w).In h) (G:h.Ns mainGlobals mg) (hfa:mg "law"=some (.ref fa)):
  ∃ ad C tn F g k n m c P0 params body scope,LawT l.prog w (KK w) mg fa "law" ad C tn F g k n m c P0 params body scope:=by
 cases hfa.symm.trans (PySem.W.mg_of X G (n:="law") (v:= .ref 387) (by kernel_rfl))
 refine⟨(zV [31,44,56,68,80,92,104,116,128,140] 31 [149,156,161,168,175,182,189,196,203,208,213,218,223,228,235,242,359,366]),⟨tbL,flL,defScope (top 39),aB (defScope (top 39)),vR 50 (defBody (top 39))⟩,"_law_told",aF,yG,30,100,7,386,382,defArgs (top 39),defBody (top 39),defScope (top 39), ?_⟩
 refine⟨⟨_,_,_,_,_,_,_,_,_,rfl,fun s u=> .of_eq rfl⟩,by kernel_rfl,by kernel_rfl,⟨rfl,by decide,by decide⟩,by kernel_rfl,by kernel_rfl,fun s₁ base H KX GX hC hB=> ?_,by kernel_rfl,by kernel_rfl,aLe⟩
 have t:PQ l.prog w (KK w) mg base base (zV [31,44,56,68,80,92,104,116,128,140] 31 [149,156,161,168,175,182,189,196,203,208,213,218,223,228,235,242,359,366]) 0 [] []:= .nil KX GX (aC1 (by kernel_rfl) (by kernel_rfl))
 have t:=t.int "MOST_NAMES" 4 360
 have t:=t.int "LONGEST_LABEL" 4 456
 have t:=t.exc "SwitchError" 0
 have t:=t.exc "NoSwitch" 1
 have t:=t.exc "NoName" 2
 have t:=t.exc "NoMove" 3
 have t:=t.exc "Unlike" 4
 have t:=t.exc "NoSums" 5
 have t:=t.exc "NoText" 6
 have t:=t.exc "NoTerm" 7
 have t:=t.exc "NoLabel" 8
 have t:=t.exc "NoBack" 9
 have t:=t.verr
 have t:=t.py .len
 have t:=t.py .range
 have t:=t.py .zip
 have t:=t.py .isin
 have t:=t.py .int
 have t:=t.py .bool
 have t:=t.py .str
 have t:=t.py .tuple
 have t:=t.py .all
 have t:=t.py .sorted
 have t:=t.add "is_whole" (top 14) 149 ["thing"] 1 d7 rfl
 have t:=t.add "is_whole_below" (top 15) 156 ["thing","bound"] 2 bF rfl
 have t:=t.add "are_whole_below" (top 16) 161 ["things","bound"] 2 bL rfl
 have t:=t.add "is_many" (top 17) 168 ["thing"] 1 fC rfl
 have t:=t.add "is_row" (top 18) 175 ["thing","length","bound"] 3 gI rfl
 have t:=t.add "how_many_settings" (top 19) 182 ["many"] 1 bC rfl
 have t:=t.add "is_switch" (top 21) 189 ["thing"] 1 dN rfl
 have t:=t.add "check_switch" (top 22) 196 ["thing"] 1 aU rfl
 have t:=t.add "check_alike" (top 23) 203 ["one","other"] 2 bM rfl
 have t:=t.add "turned" (top 24) 208 ["switch"] 1 gJ rfl
 have t:=t.add "both" (top 25) 213 ["one","other"] 2 pR rfl
 have t:=t.add "either" (top 26) 218 ["one","other"] 2 gK rfl
 have t:=t.add "unlike" (top 27) 223 ["one","other"] 2 gL rfl
 have t:=t.add "is_label" (top 30) 228 ["thing"] 1 d8 rfl
 have t:=t.add "check_label" (top 31) 235 ["thing"] 1 bN rfl
 have t:=t.add "joined" (top 32) 242 ["word","one","other"] 3 gM rfl
 have t:=t.add "_law_cell" (top 35) 359 ["_law_script","_law_k"] 2 cO rfl
 have t:=t.add "_law_pick" (top 36) 366 ["_law_script","_law_k","_law_many"] 3 aL rfl
 have t:=t.rack 348 (aAc (by kernel_rfl) (by kernel_rfl) (by kernel_rfl) (by kernel_rfl) (by kernel_rfl) (by kernel_rfl) (by kernel_rfl))
 have t:=t.met "set_to" "Rack.set_to" (met 33 1) 263 "self" ["label","switch"] 2 aR rfl rfl
 have t:=t.met "do" "Rack.do" (met 33 2) 270 "self" ["word","label","switch"] 3 mD rfl rfl
 have t:=t.met "put" "Rack.put" (met 33 3) 277 "self" ["label","switch"] 2 dG rfl rfl
 have t:=t.met "switch_of" "Rack.switch_of" (met 33 4) 284 "self" ["label"] 1 aG rfl rfl
 have t:=t.met "take" "Rack.take" (met 33 5) 291 "self" ["label"] 1 dA rfl rfl
 have t:=t.met "join" "Rack.join" (met 33 6) 298 "self" ["label","word","one","other"] 4 b0 rfl rfl
 have t:=t.met "turn" "Rack.turn" (met 33 7) 305 "self" ["label"] 1 dP rfl rfl
 have t:=t.met "labels" "Rack.labels" (met 33 8) 312 "self" [] 0 bT rfl rfl
 have t:=t.met "like" "Rack.like" (met 33 9) 317 "self" ["label"] 1 eK rfl rfl
 have t:=t.met "back" "Rack.back" (met 33 10) 324 "self" [] 0 iM rfl rfl
 have t:=t.met "forth" "Rack.forth" (met 33 11) 331 "self" [] 0 fR rfl rfl
 have t:=t.met "counts" "Rack.counts" (met 33 12) 338 "self" [] 0 fD rfl rfl
 have Fi:=lC (K:=KK w) (x:="__init__") (qual:="Rack.__init__") (st:=met 33 0) (f:=256) rfl (by kernel_rfl) (by kernel_rfl)
 have hib:=Fi.binds (ps:=["self"]) (by intro _ _ _ _ _ _ us hl;rcases us with _ | ⟨u0,_ | ⟨u1,us⟩⟩<;>first | rfl | (simp at hl))
 have Fq:=lC (K:=KK w) (x:="_law_class") (qual:="_law_class") (st:=top 37) (f:=373) rfl (by kernel_rfl) (by kernel_rfl)
 have Ft:=lC (K:=KK w) (x:="_law_told") (qual:="_law_told") (st:=top 38) (f:=380) rfl (by kernel_rfl) (by kernel_rfl)
 have hq:=aDo (ps:=["_law_kept"]) (n:=1) (F:=aF) t.B t.t Fq rfl (by kernel_rfl)
 have hqb:=Fq.binds (ps:=["_law_kept"]) (by intro _ _ _ _ _ _ us hl;rcases us with _ | ⟨u0,_ | ⟨u1,us⟩⟩<;>first | rfl | (simp at hl))
 have hT:=aD9 (k:=31) (t:=⟨"_law_deed","e","_law_class","SwitchError"⟩) (kf:=31) Ft (by kernel_rfl) (by kernel_rfl) (PySem.W.mg_of KX GX (by kernel_rfl)) (by kernel_rfl) hq hqb (ak _) (PySem.W.mg_of KX GX (by kernel_rfl)) t.B
 exact aEa (tab:=tbL) (fns:=flL) (x:="_law_script") t.B t.t t.u (by kernel_rfl) ⟨rfl,by decide,by decide⟩ ⟨380,_,"_law_deed",PySem.W.mg_of KX GX (by kernel_rfl),by kernel_rfl,hT,fun s u _=> .of_eq rfl⟩ (by decide) hC hB (fun A ms e=>by cases (show(some (SK.Gl.cls 348 [("counts",0,fD),("forth",0,fR),("back",0,iM),("like",1,eK),("labels",0,bT),("turn",1,dP),("join",4,b0),("take",1,dA),("switch_of",1,aG),("put",2,dG),("do",3,mD),("set_to",2,aR)]):Option SK.Gl)=some (SK.Gl.cls A ms) from e);exact⟨256,1,_,_,by decide,⟨by kernel_rfl,by kernel_rfl,by kernel_rfl,by kernel_rfl⟩,aH4 (k:=0) (self:="self") (aAc (by kernel_rfl) (by kernel_rfl) (by kernel_rfl) (by kernel_rfl) (by kernel_rfl) (by kernel_rfl) (by kernel_rfl)) Fi (by kernel_rfl) (by kernel_rfl),hib⟩)
end SK.k74
open PySem PySem.W PyProof.Rows
set_option maxRecDepth 100000 in
set_option maxHeartbeats 0 in
theorem PySem.Challenge.cw_switchkinds_k74_racks_refused_holds : PySem.Challenge.rw_switchkinds_k74_racks_refused.Holds := by
 w_on;o_law
 refine PySem.W.holds_open (q:=SK.k74.kq) (loose:=[]) (Xt:=fun s=>PySem.W.xlAt SK.k74.kq [] s&&PySem.W.recOk (PySem.W.RowW.records (PySem.W.OpenRow.toRowW PySem.Challenge.rw_switchkinds_k74_racks_refused.row)) s) (XP:=PySem.W.XL SK.k74.kq []) (Yf:=PySem.W.Hook.obs (PySem.W.kHook SK.k74.kK SK.k74.kas (fun _=>by kernel_rfl))) (Ya:=PySem.W.Hook.val (PySem.W.kHook SK.k74.kK SK.k74.kas (fun _=>by kernel_rfl))) (YP:=PySem.W.Hook.says (PySem.W.kHook SK.k74.kK SK.k74.kas (fun _=>by kernel_rfl))) (N:=7024) SK.k74.left (PySem.W.Hook.of (PySem.W.kHook SK.k74.kK SK.k74.kas (fun _=>by kernel_rfl))) (PySem.W.Hook.keeps (PySem.W.kHook SK.k74.kK SK.k74.kas (fun _=>by kernel_rfl))) (fun s e=>PySem.W.xl_of s (Bool.and_eq_true_iff.mp e).1) PySem.W.XL.keeps (by rfl) (by rfl) (by rfl) (fun s e=>PySem.W.recFacts_of (Bool.and_eq_true_iff.mp e).2) (by rfl) (by first | assumption | decide+kernel) (by decide+kernel) ⟨rfl,rfl,rfl,rfl,rfl,by decide+kernel⟩ ?hw ?hc
 (case hw=>w_witness2)
 refine SK.walkT (l:=PySem.Challenge.rw_switchkinds_k74_racks_refused) rfl rfl (fun w h Y=>PySem.W.kIn_of Y) (Option.isSome_iff_exists.mp (by kernel_rfl)) ?F
 case F=>
  intro w mg fa h KX G hmg
  exact SK.k74.all_mk KX G hmg
