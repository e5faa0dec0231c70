import PyProof.Rows.All
import Wide.All
import OpenK.AllK
import Wide.FinOn
import Lean
import PyProof.EqAt
import PyProof.EqKinds
import PyProof.TupleCall
import PySem.Syntax
import PySem.Builtin.Int.W1All
import PySem.Eval
import PyProof.P3Eq
import PyProof.NeData
import PyProof.Rows.IntBool
import PyProof.FString5
import PyProof.StrWalks
import PyProof.ExcArgs
import PyProof.RulesAs
import PyProof.RulesDel
import KE.KTryMore
import PyProof.ZipIter
import PyProof.EnumStmt
import PyProof.ListRange
import PyProof.TupleOfSeq
import PyProof.ConsumeS
import PyProof.Rows.MinMaxGenD
import PyProof.Rows.RuleM_int
import KE.KRevSl
import PyProof.SetNew
import PyProof.Rows.SetFrom
import PyProof.TupleKey
import PyProof.FactsAll.NoneType
import KE.KSortTup
import PyProof.Rows.CallKwBuiltin
import PyProof.DictRoadsH
import PyProof.DictWalks
import KE.KDictList
import PyProof.Rows.SortStr
import KE.KUnpack
import KE.KLam
import PySem.Challenge.RW_switchkinds_k77_whole_told_lists
open PySem renaming wpAny_bind->aa,wpAny_pure->ae
open PySem.Heap renaming get?_push_of_some->af,get?_push_size->ag,lt_size->ah,size_push->ai
open Nat renaming le_refl->aj,lt_of_lt_of_le->bg,ne_of_lt->bh,zero_le->bu
open List renaming replicate->ak,length_map->ao,mem_map->aq,mem_cons->au,size_toArray->aw,getElem?_eq_some_iff->ax,getElem?_set_ne->ba,getElem?_eq_getElem->bd,getElem?_set_self->bj,getElem?_append_right->bn,length_append->bo,length_cons->bq,mem_append_right->bt,getElem?_append_left->bx,getD_eq_getElem?_getD->bz
open Bool renaming and_eq_true->av,false_eq_true->ay,false_ne_true->bf
open False renaming elim->az
theorem zBd {α β:Type} {o:Option α} {f:α->Option β} {b:β} (h:o.bind f=some b): ∃ a,o=some a/\f a=some b:=Option.bind_eq_some_iff.mp h
theorem zMd {α β:Type} {o:Option α} {f:α->β} {b:β} (h:o.map f=some b): ∃ a,o=some a/\f a=b:=Option.map_eq_some_iff.mp h
theorem zAd {α:Type} {l:List α} {p:α->Bool} (h:l.all p=true): ∀ x,x∈l->p x=true:=List.all_eq_true.mp h
theorem zPd {m n:Nat} (h:m<n):m∈List.range n:=List.mem_range.mpr h
theorem zRd {m n:Nat} (h:m∈List.range n):m<n:=List.mem_range.mp h
set_option Elab.async false
set_option linter.all false
set_option maxRecDepth 100000
namespace SK
open PySem PySem.W PyProof.Rows PySem.Calls
noncomputable def aK0 (tb:String->Option Builtin) (p:Program) (w:World) (m:Nat) (ann:Option Value) (n:Nat):SharedT->Thread->Option SharedT:=
 Nat.rec (fun _ _=>none) (fun _ ih s t=>match through t with
  | true=>some s
  | false=>match stepOk m ann t with
   | false=>none
   | true=>match stepT (denote tb) p w s t with
    | some r=>ih r.1 r.2
    | none=>none) n
theorem lM {tb:String->Option Builtin} {p:Program} {w:World} {m:Nat} {ann:Option Value}: ∀ (n:Nat) (s s':SharedT) (t:Thread),aK0 tb p w m ann n s t=some s'->topRun tb p w m ann n s.abs t=some s'.abs
 | 0,_,_,_,h=>nomatch h
 | n+1,s,s',t,h=>by
  have h:(match through t with
   | true=>some s
   | false=>match stepOk m ann t with
    | false=>none
    | true=>match stepT (denote tb) p w s t with
     | some r=>aK0 tb p w m ann n r.1 r.2
     | none=>none)=some s':=h
  unfold topRun
  cases ht:through t with
  | true=>rw [ht] at h;cases h;rfl
  | false=>
   rw [ht] at h
   cases hk:stepOk m ann t with
   | false=>rw [hk] at h;cases h
   | true=>
    rw [hk] at h
    cases hs:stepT (denote tb) p w s t with
    | none=>rw [hs] at h;cases h
    | some r=>obtain⟨s₂,t₂⟩:=r;rw [hs] at h;rw [stepT_spec hs];exact lM n _ _ _ h
noncomputable def BTl:Nat->List Obj->BT
 | 0,_=> .nil
 | n+1,l=>match l with
  | []=> .nil
  | v::r=> .node v (BTl n (ev true r)) (BTl n (ev false r))
where
 ev:Bool->List Obj->List Obj
 | _,[]=>[]
 | true,v::r=>v::ev false r
 | false,_::r=>ev true r
noncomputable def bt0 (P:Params):BT:=BTl 12 (boot_heap P).objs.toList
noncomputable def sT0 (P:Params) (os:OsState):SharedT:=⟨bt0 P,(boot_heap P).objs.size,(boot_heap P).life, #[],boot_drawn,boot_toks,os⟩
theorem aGa (P:Params):absHeap (bt0 P) (boot_heap P).objs.size (boot_heap P).life=boot_heap P:=by kernel_rfl
theorem aB1 (P:Params):(boot_heap P).isNs mainGlobals=true:=by kernel_rfl
noncomputable def aB2 (p q:Program) (loose:List Str) (Xt:Shared->Bool) {α:Type} (Yf:Shared->α) (P:Params) (s:Shared):=
 (staticsOk (importedModules p.main.body) (boot_heap P) s.heap&&namesBound p s.heap&&gensDone s&&laidKept (boot_heap P) s.heap,openSeen q loose (importedModules p.main.body) Xt true s,Yf s)
noncomputable def aNa (p:Program) (N:Nat) (w:World) (os:OsState):Option SharedT:=aK0 treeTable p w (boot_heap w.params).objs.size ((boot_heap w.params).nsMap mainGlobals "__annotations__") N (sT0 w.params os) (topStub p)
theorem left_tree {p q:Program} {loose:List Str} {Xt:Shared->Bool} {α:Type} {Yf:Shared->α} {Ya:World->α} {N:Nat}
  (e:opening p=plainProg p.main.scope.names) (hN:Nat.ble 600 N=true) (f: ∀ s,fenceModules? p s=some s)
  (hk: ∀ w os,(aNa p N w os).map (fun s=>aB2 p q loose Xt Yf w.params s.abs)=some (true,openGood q loose,Ya w)):LeftO p q loose Xt Yf Ya N:=fun w=>by
 obtain⟨s0,b1,b2⟩:=zMd (boot_open e hN f w)
 obtain⟨h,gs,d,k,os⟩:=s0
 obtain⟨rfl,rfl,rfl,rfl⟩:h=boot_heap w.params/\gs=Array.mk []/\d=boot_drawn/\k=boot_toks:=by simpa using b2
 obtain⟨s,r,l⟩:=zMd (hk w os)
 obtain⟨l1,l2,l3⟩:_/\_/\_:=by simpa only [aB2,Prod.mk.injEq] using l
 have r':=lM _ _ _ _ r
 have h0:(sT0 w.params os).abs=⟨boot_heap w.params,Array.mk [],boot_drawn,boot_toks,os⟩:=by
  show(⟨absHeap (bt0 w.params) (boot_heap w.params).objs.size (boot_heap w.params).life, #[],boot_drawn,boot_toks,os⟩:Shared)=_
  rw [aGa]
 rw [h0] at r'
 have t:topFrom treeTable p w N ⟨boot_heap w.params,Array.mk [],boot_drawn,boot_toks,os⟩=some s.abs:=by
  unfold topFrom
  dsimp only
  rw [aB1,r']
  show(match staticsOk (importedModules p.main.body) (boot_heap w.params) s.abs.heap&&namesBound p s.abs.heap&&gensDone s.abs&&laidKept (boot_heap w.params) s.abs.heap with | true=>_ | false=>_)=_
  rw [l1]
 unfold openEnds
 rw [b1]
 show(topFrom treeTable p w N _).map _=_
 rw [t]
 exact congrArg some (Prod.ext l2 l3)
universe u
noncomputable def kt {α:Sort u} (_:α):Bool:=true
noncomputable def q1 (p q:Program) (N:Nat) (c:WRecords) (a:List Addr) (w:World) (os:OsState):=(aNa p N w os).map fun s=>aB2 p q [] (fun s=>xlAt q [] s&&recOk c s) (fun s=>a.map s.heap.get?) w.params s.abs
theorem tg:kt q1=true:=by k_qdec
end SK
set_option maxHeartbeats 0
namespace L2
open PySem
noncomputable def defArgs (s:Stmt):Arguments:=match s with
 | .FunctionDef _ a _ _ _ _ _ _ _ _=>a
 | _=>{ posonlyargs:=[],args:=[],vararg:=none,kwonlyargs:=[],kw_defaults:=[],kwarg:=none,defaults:=[] }
noncomputable def defBody (s:Stmt):List Stmt:=match s with
 | .FunctionDef _ _ b _ _ _ _ _ _ _=>b
 | _=>[]
noncomputable def defScope (s:Stmt):Scope:=match s with
 | .FunctionDef _ _ _ _ _ _ sc _ _ _=>sc
 | _=>{ kind:= .function,names:=[],isGenerator:=false,isCoroutine:=false }
end L2
namespace SK.k77
open PySem
noncomputable def top (i:Nat):Stmt:=PySem.Challenge.pw_switchkinds_k77_whole_told_lists.main.body.getD i (.Pass ⟨0,0,0,0⟩)
noncomputable def met (i j:Nat):Stmt:=(match top i with | .ClassDef _ _ _ b _ _ _ _ _ _ _=>b | _=>[]).getD j (.Pass ⟨0,0,0,0⟩)
noncomputable abbrev fm (st:Stmt) (x q m:Str) (t c:Nat):Obj:={ cls:= .type "function",data:= .func { name:=x,qualname:=q,params:=L2.defArgs st,body:= .stmts (L2.defBody st),scope:=L2.defScope st,globals:=3,closure:=[],defaults:= .none,kwdefaults:= .none,pyModule:= .str m t,code:= .ref c } }
noncomputable abbrev en (P:Params) (k:Str) (t:Nat) (v:Value):DictEntry:=⟨PyData.keyHash P k, .str k t,v⟩
noncomputable abbrev fo (st:Stmt) (x m:Str) (t c:Nat):Obj:={ cls:= .type "function",data:= .func { name:=x,qualname:=x,params:=L2.defArgs st,body:= .stmts (L2.defBody st),scope:=L2.defScope st,globals:=3,closure:=[],defaults:= .none,kwdefaults:= .none,pyModule:= .str m t,code:= .ref c } }
noncomputable abbrev co (vs:Array Value):Obj:={ cls:= .type "code",data:= .fields vs }
noncomputable abbrev cC (x:Str) (a l n r e:Nat) (u v w:Value):Obj:=co #[.str x a, .str x (a+1), .str "/claim/cut.py" (a+2), .int l 0, .int n 0, .int 0 0, .int 0 0, .int 3 0, .ref r, .bool true, .int 181 0, .ref (r+1), .none,u,v,w, .int e 0, .int l 0, .str "/claim/cut.py" (e+1)]
noncomputable abbrev cA (x:Str) (a l n r e:Nat):Obj:=cC x a l n r e .none .none (.ref (r+2))
noncomputable abbrev cB (x:Str) (a l n r e:Nat):Obj:=cC x a l n r e (.ref (r+2)) (.ref (r+3)) (.ref (r+4))
noncomputable abbrev cK (x:Str) (f c ns s a b:Nat):Obj:={ cls:= .type "type",data:= .cls { name:=x,bases:=[.ref c],mro:=[.ref f, .ref c, .type "ValueError", .type "Exception", .type "BaseException", .type "object"],ns:=ns,qualname:=x },slots:= #[some (.ref s),none,some (.str x a),some (.str x b),some (.builtin "ValueError.__new__"),some (.bool true)] }
noncomputable abbrev dK (P:Params) (m:Str) (q a l r:Nat):Obj:={ cls:= .type "dict",data:= .dict #[en P "__module__" a (.str m q),en P "__firstlineno__" (a+4) (.int l (a+3)),en P "__static_attributes__" (a+5) (.ref r),en P "__doc__" (a+6) .none] 2 }
noncomputable def kK:Params->PySem.W.Frag:=fun P=>[
(3,{ cls:= .type "dict",data:= .dict #[en P "__name__" 165 (.str "law_switchkinds_k77_whole_told_lists" 621),en P "__doc__" 166 .none,en P "__package__" 167 .none,en P "__loader__" 168 (.builtin "__main__.__loader__#opaque"),en P "__spec__" 169 .none,en P "__annotations__" 170 (.ref 6),en P "__builtins__" 171 (.ref 4),en P "__file__" 173 (.str "/claim/cut.py" 172),en P "__cached__" 174 .none,en P "_wall" 193 (.ref 21),en P "SwitchError" 213 (.ref 31),en P "NoSwitch" 229 (.ref 44),en P "NoName" 245 (.ref 56),en P "NoTerm" 261 (.ref 68),en P "NoLabel" 277 (.ref 80),en P "NoBack" 293 (.ref 92),en P "MOST_NAMES" 297 (.int 4 296),en P "is_whole" 304 (.ref 101),en P "is_whole_below" 312 (.ref 108),en P "are_whole_below" 318 (.ref 113),en P "is_many" 325 (.ref 120),en P "is_row" 334 (.ref 127),en P "how_many_settings" 341 (.ref 134),en P "is_switch" 350 (.ref 141),en P "check_switch" 357 (.ref 148),en P "check_many" 364 (.ref 155),en P "ones" 370 (.ref 160),en P "of_ones" 376 (.ref 165),en P "PARTS" 381 (.ref 166),en P "is_part" 388 (.ref 173),en P "is_term" 394 (.ref 178),en P "check_term" 402 (.ref 185),en P "held_at" 408 (.ref 190),en P "of_terms" 418 (.ref 197),en P "all_terms" 424 (.ref 202),en P "widened" 430 (.ref 207),en P "primes" 436 (.ref 212),en P "essentials" 442 (.ref 217),en P "odd_within" 450 (.ref 222),en P "products" 458 (.ref 229),en P "of_products" 466 (.ref 236),en P "LONGEST_LABEL" 470 (.int 4 469),en P "is_label" 476 (.ref 241),en P "check_label" 483 (.ref 248),en P "Rack" 620 (.ref 354),en P "_law_cell" 630 (.ref 365),en P "_law_pick" 640 (.ref 372),en P "_law_switch" 646 (.ref 377),en P "_law_setting" 652 (.ref 382),en P "_law_odd" 658 (.ref 387),en P "_law_names" 666 (.ref 394),en P "_law_stays" 675 (.ref 401),en P "law" 688 (.ref 408)] 53 }),
(20,cB "_wall" 187 1 1 15 191),
(21,fo (top 0) "_wall" "__main__" 164 20),
(30,{ cls:= .type "dict",data:= .dict #[en P "__module__" 203 (.str "switchkinds.errors" 194),en P "__firstlineno__" 207 (.int 5 206),en P "__static_attributes__" 208 (.ref 29),en P "__weakref__" 210 (.ref 32),en P "__doc__" 211 .none] 3 }),
(31,{ cls:= .type "type",data:= .cls { name:="SwitchError",bases:=[.type "ValueError"],mro:=[.ref 31, .type "ValueError", .type "Exception", .type "BaseException", .type "object"],ns:=30,qualname:="SwitchError",subclasses:=[.ref 44, .ref 56, .ref 68, .ref 80, .ref 92] },slots:= #[some (.ref 22),none,some (.str "SwitchError" 196),some (.str "SwitchError" 204),some (.builtin "ValueError.__new__"),some (.bool true)] }),
(32,{ cls:= .type "getset_descriptor",data:= .fields #[.str "__weakref__" 209, .ref 31, .builtin "ExceptionGroup.__weakref__", .none] }),
(43,dK P "switchkinds.errors" 194 221 7 42),
(44,cK "NoSwitch" 44 31 43 35 214 222),
(55,dK P "switchkinds.errors" 194 237 9 54),
(56,cK "NoName" 56 31 55 47 230 238),
(67,dK P "switchkinds.errors" 194 253 11 66),
(68,cK "NoTerm" 68 31 67 59 246 254),
(79,dK P "switchkinds.errors" 194 269 13 78),
(80,cK "NoLabel" 80 31 79 71 262 270),
(91,dK P "switchkinds.errors" 194 285 15 90),
(92,cK "NoBack" 92 31 91 83 278 286),
(100,cB "is_whole" 298 19 1 95 302),
(101,fo (top 10) "is_whole" "switchkinds.wholes" 294 100),
(107,cB "is_whole_below" 305 21 2 102 310),
(108,fo (top 11) "is_whole_below" "switchkinds.wholes" 294 107),
(112,cA "are_whole_below" 313 23 2 109 316),
(113,fo (top 12) "are_whole_below" "switchkinds.wholes" 294 112),
(119,cB "is_many" 319 25 1 114 323),
(120,fo (top 13) "is_many" "switchkinds.wholes" 294 119),
(126,cB "is_row" 326 27 3 121 332),
(127,fo (top 14) "is_row" "switchkinds.wholes" 294 126),
(133,cB "how_many_settings" 335 29 1 128 339),
(134,fo (top 15) "how_many_settings" "switchkinds.wholes" 294 133),
(140,cB "is_switch" 344 32 1 135 348),
(141,fo (top 17) "is_switch" "switchkinds.switches" 342 140),
(147,cB "check_switch" 351 36 1 142 355),
(148,fo (top 18) "check_switch" "switchkinds.switches" 342 147),
(154,cB "check_many" 358 39 1 149 362),
(155,fo (top 19) "check_many" "switchkinds.switches" 342 154),
(159,cA "ones" 365 42 1 156 368),
(160,fo (top 20) "ones" "switchkinds.switches" 342 159),
(164,cA "of_ones" 371 45 2 161 374),
(165,fo (top 21) "of_ones" "switchkinds.switches" 342 164),
(166,{ cls:= .type "tuple",data:= .seq #[.int 0 379, .int 1 380, .none] 0 }),
(172,cB "is_part" 382 53 1 167 386),
(173,fo (top 24) "is_part" "switchkinds.terms" 377 172),
(177,cA "is_term" 389 55 2 174 392),
(178,fo (top 25) "is_term" "switchkinds.terms" 377 177),
(184,cB "check_term" 395 59 2 179 400),
(185,fo (top 26) "check_term" "switchkinds.terms" 377 184),
(189,cA "held_at" 403 62 1 186 406),
(190,fo (top 27) "held_at" "switchkinds.terms" 377 189),
(196,cB "of_terms" 409 72 2 191 416),
(197,fo (top 28) "of_terms" "switchkinds.terms" 377 196),
(201,cA "all_terms" 419 81 1 198 422),
(202,fo (top 29) "all_terms" "switchkinds.terms" 377 201),
(206,cA "widened" 425 89 1 203 428),
(207,fo (top 30) "widened" "switchkinds.terms" 377 206),
(211,cA "primes" 431 91 1 208 434),
(212,fo (top 31) "primes" "switchkinds.terms" 377 211),
(216,cA "essentials" 437 98 1 213 440),
(217,fo (top 32) "essentials" "switchkinds.terms" 377 216),
(221,cA "odd_within" 445 106 2 218 448),
(222,fo (top 34) "odd_within" "switchkinds.products" 443 221),
(228,cB "products" 451 113 1 223 456),
(229,fo (top 35) "products" "switchkinds.products" 443 228),
(235,cB "of_products" 459 116 2 230 464),
(236,fo (top 36) "of_products" "switchkinds.products" 443 235),
(240,cA "is_label" 471 123 1 237 474),
(241,fo (top 39) "is_label" "switchkinds.racks" 467 240),
(247,cB "check_label" 477 127 1 242 481),
(248,fo (top 40) "check_label" "switchkinds.racks" 467 247),
(261,co #[.str "__init__" 496, .str "Rack.__init__" 497, .str "/claim/cut.py" 498, .int 132 0, .int 1 0, .int 0 0, .int 0 0, .int 3 0, .ref 256, .bool true, .int 181 0, .ref 257, .none, .ref 258, .ref 259, .ref 260, .int 500 0, .int 132 0, .str "/claim/cut.py" 501]),
(262,fm (met 41 0) "__init__" "Rack.__init__" "switchkinds.racks" 467 261),
(268,co #[.str "set_to" 503, .str "Rack.set_to" 504, .str "/claim/cut.py" 505, .int 137 0, .int 3 0, .int 0 0, .int 0 0, .int 3 0, .ref 263, .bool true, .int 181 0, .ref 264, .none, .ref 265, .ref 266, .ref 267, .int 509 0, .int 137 0, .str "/claim/cut.py" 510]),
(269,fm (met 41 1) "set_to" "Rack.set_to" "switchkinds.racks" 467 268),
(275,co #[.str "do" 512, .str "Rack.do" 513, .str "/claim/cut.py" 514, .int 143 0, .int 4 0, .int 0 0, .int 0 0, .int 3 0, .ref 270, .bool true, .int 181 0, .ref 271, .none, .ref 272, .ref 273, .ref 274, .int 519 0, .int 143 0, .str "/claim/cut.py" 520]),
(276,fm (met 41 2) "do" "Rack.do" "switchkinds.racks" 467 275),
(282,co #[.str "put" 522, .str "Rack.put" 523, .str "/claim/cut.py" 524, .int 148 0, .int 3 0, .int 0 0, .int 0 0, .int 3 0, .ref 277, .bool true, .int 181 0, .ref 278, .none, .ref 279, .ref 280, .ref 281, .int 529 0, .int 148 0, .str "/claim/cut.py" 530]),
(283,fm (met 41 3) "put" "Rack.put" "switchkinds.racks" 467 282),
(289,co #[.str "switch_of" 532, .str "Rack.switch_of" 533, .str "/claim/cut.py" 534, .int 155 0, .int 2 0, .int 0 0, .int 0 0, .int 3 0, .ref 284, .bool true, .int 181 0, .ref 285, .none, .ref 286, .ref 287, .ref 288, .int 537 0, .int 155 0, .str "/claim/cut.py" 538]),
(290,fm (met 41 4) "switch_of" "Rack.switch_of" "switchkinds.racks" 467 289),
(296,co #[.str "take" 540, .str "Rack.take" 541, .str "/claim/cut.py" 542, .int 161 0, .int 2 0, .int 0 0, .int 0 0, .int 3 0, .ref 291, .bool true, .int 181 0, .ref 292, .none, .ref 293, .ref 294, .ref 295, .int 546 0, .int 161 0, .str "/claim/cut.py" 547]),
(297,fm (met 41 5) "take" "Rack.take" "switchkinds.racks" 467 296),
(303,co #[.str "join" 549, .str "Rack.join" 550, .str "/claim/cut.py" 551, .int 166 0, .int 5 0, .int 0 0, .int 0 0, .int 3 0, .ref 298, .bool true, .int 181 0, .ref 299, .none, .ref 300, .ref 301, .ref 302, .int 557 0, .int 166 0, .str "/claim/cut.py" 558]),
(304,fm (met 41 6) "join" "Rack.join" "switchkinds.racks" 467 303),
(310,co #[.str "turn" 560, .str "Rack.turn" 561, .str "/claim/cut.py" 562, .int 169 0, .int 2 0, .int 0 0, .int 0 0, .int 3 0, .ref 305, .bool true, .int 181 0, .ref 306, .none, .ref 307, .ref 308, .ref 309, .int 565 0, .int 169 0, .str "/claim/cut.py" 566]),
(311,fm (met 41 7) "turn" "Rack.turn" "switchkinds.racks" 467 310),
(317,co #[.str "labels" 568, .str "Rack.labels" 569, .str "/claim/cut.py" 570, .int 172 0, .int 1 0, .int 0 0, .int 0 0, .int 3 0, .ref 312, .bool true, .int 181 0, .ref 313, .none, .ref 314, .ref 315, .ref 316, .int 572 0, .int 172 0, .str "/claim/cut.py" 573]),
(318,fm (met 41 8) "labels" "Rack.labels" "switchkinds.racks" 467 317),
(322,co #[.str "like" 575, .str "Rack.like" 576, .str "/claim/cut.py" 577, .int 175 0, .int 2 0, .int 0 0, .int 0 0, .int 3 0, .ref 319, .bool true, .int 181 0, .ref 320, .none, .none, .none, .ref 321, .int 578 0, .int 175 0, .str "/claim/cut.py" 579]),
(323,fm (met 41 9) "like" "Rack.like" "switchkinds.racks" 467 322),
(329,co #[.str "back" 581, .str "Rack.back" 582, .str "/claim/cut.py" 583, .int 179 0, .int 1 0, .int 0 0, .int 0 0, .int 3 0, .ref 324, .bool true, .int 181 0, .ref 325, .none, .ref 326, .ref 327, .ref 328, .int 586 0, .int 179 0, .str "/claim/cut.py" 587]),
(330,fm (met 41 10) "back" "Rack.back" "switchkinds.racks" 467 329),
(336,co #[.str "forth" 589, .str "Rack.forth" 590, .str "/claim/cut.py" 591, .int 187 0, .int 1 0, .int 0 0, .int 0 0, .int 3 0, .ref 331, .bool true, .int 181 0, .ref 332, .none, .ref 333, .ref 334, .ref 335, .int 593 0, .int 187 0, .str "/claim/cut.py" 594]),
(337,fm (met 41 11) "forth" "Rack.forth" "switchkinds.racks" 467 336),
(343,co #[.str "counts" 596, .str "Rack.counts" 597, .str "/claim/cut.py" 598, .int 190 0, .int 1 0, .int 0 0, .int 0 0, .int 3 0, .ref 338, .bool true, .int 181 0, .ref 339, .none, .ref 340, .ref 341, .ref 342, .int 600 0, .int 190 0, .str "/claim/cut.py" 601]),
(344,fm (met 41 12) "counts" "Rack.counts" "switchkinds.racks" 467 343),
(350,co #[.str "twin" 603, .str "Rack.twin" 604, .str "/claim/cut.py" 605, .int 193 0, .int 1 0, .int 0 0, .int 0 0, .int 3 0, .ref 345, .bool true, .int 181 0, .ref 346, .none, .ref 347, .ref 348, .ref 349, .int 607 0, .int 193 0, .str "/claim/cut.py" 608]),
(351,fm (met 41 13) "twin" "Rack.twin" "switchkinds.racks" 467 350),
(353,{ cls:= .type "dict",data:= .dict #[en P "__module__" 491 (.str "switchkinds.racks" 467),en P "__firstlineno__" 495 (.int 130 494),en P "__init__" 502 (.ref 262),en P "set_to" 511 (.ref 269),en P "do" 521 (.ref 276),en P "put" 531 (.ref 283),en P "switch_of" 539 (.ref 290),en P "take" 548 (.ref 297),en P "join" 559 (.ref 304),en P "turn" 567 (.ref 311),en P "labels" 574 (.ref 318),en P "like" 580 (.ref 323),en P "back" 588 (.ref 330),en P "forth" 595 (.ref 337),en P "counts" 602 (.ref 344),en P "twin" 609 (.ref 351),en P "__static_attributes__" 613 (.ref 352),en P "__dict__" 615 (.ref 355),en P "__weakref__" 617 (.ref 356),en P "__doc__" 618 .none] 4 }),
(354,{ cls:= .type "type",data:= .cls { name:="Rack",bases:=[.type "object"],mro:=[.ref 354, .type "object"],ns:=353,qualname:="Rack" },slots:= #[none,none,some (.str "Rack" 484),some (.str "Rack" 492),some (.builtin "object.__new__"),some (.bool true)] }),
(355,{ cls:= .type "getset_descriptor",data:= .fields #[.str "__dict__" 614, .ref 354, .builtin "function.__dict__", .builtin "function.__dict__#set"] }),
(356,{ cls:= .type "getset_descriptor",data:= .fields #[.str "__weakref__" 616, .ref 354, .builtin "ExceptionGroup.__weakref__", .none] }),
(364,cB "_law_cell" 623 196 2 359 628),
(365,fo (top 43) "_law_cell" "law_switchkinds_k77_whole_told_lists" 621 364),
(371,cB "_law_pick" 631 202 3 366 638),
(372,fo (top 44) "_law_pick" "law_switchkinds_k77_whole_told_lists" 621 371),
(376,cA "_law_switch" 641 205 3 373 644),
(377,fo (top 45) "_law_switch" "law_switchkinds_k77_whole_told_lists" 621 376),
(381,cA "_law_setting" 647 221 2 378 650),
(382,fo (top 46) "_law_setting" "law_switchkinds_k77_whole_told_lists" 621 381),
(386,cA "_law_odd" 653 223 2 383 656),
(387,fo (top 47) "_law_odd" "law_switchkinds_k77_whole_told_lists" 621 386),
(393,cB "_law_names" 659 225 2 388 664),
(394,fo (top 48) "_law_names" "law_switchkinds_k77_whole_told_lists" 621 393),
(400,cB "_law_stays" 667 227 1 395 673),
(401,fo (top 49) "_law_stays" "law_switchkinds_k77_whole_told_lists" 621 400),
(407,cB "law" 676 234 1 402 686),
(408,fo (top 50) "law" "law_switchkinds_k77_whole_told_lists" 621 407)]
noncomputable def kas:List Addr:=[3,20,21,30,31,32,43,44,55,56,67,68,79,80,91,92,100,101,107,108,112,113,119,120,126,127,133,134,140,141,147,148,154,155,159,160,164,165,166,172,173,177,178,184,185,189,190,196,197,201,202,206,207,211,212,216,217,221,222,228,229,235,236,240,241,247,248,261,262,268,269,275,276,282,283,289,290,296,297,303,304,310,311,317,318,322,323,329,330,336,337,343,344,350,351,353,354,355,356,364,365,371,372,376,377,381,382,386,387,393,394,400,401,407,408]
noncomputable def kq:Program:={ PySem.Challenge.pw_switchkinds_k77_whole_told_lists with main:={ PySem.Challenge.pw_switchkinds_k77_whole_told_lists.main with body:=[top 0,top 2,top 3,top 4,top 5,top 6,top 7,top 9,top 10,top 11,top 12,top 13,top 14,top 15,top 17,top 18,top 19,top 20,top 21,top 23,top 24,top 25,top 26,top 27,top 28,top 29,top 30,top 31,top 32,top 34,top 35,top 36,top 38,top 39,top 40,top 41,top 43,top 44,top 45,top 46,top 47,top 48,top 49,top 50] } }
theorem lk (w:World) (os:OsState):SK.q1 PySem.Challenge.rw_switchkinds_k77_whole_told_lists.row.prog kq 6026 (PySem.W.RowW.records (PySem.W.OpenRow.toRowW PySem.Challenge.rw_switchkinds_k77_whole_told_lists.row)) kas w os=some (true,PySem.W.openGood kq [],(kK w.params).map fun p=>some p.2):=by
 have _:=SK.tg
 rw [PySem.W.Fast.te11324695928718235439]
 kernel_rfl
theorem left:PySem.W.LeftO PySem.Challenge.rw_switchkinds_k77_whole_told_lists.row.prog kq [] (fun s=>PySem.W.xlAt kq [] s&&PySem.W.recOk (PySem.W.RowW.records (PySem.W.OpenRow.toRowW PySem.Challenge.rw_switchkinds_k77_whole_told_lists.row)) s) (PySem.W.Hook.obs (PySem.W.kHook kK kas (fun _=>by kernel_rfl))) (PySem.W.Hook.val (PySem.W.kHook kK kas (fun _=>by kernel_rfl))) 6026:=SK.left_tree (by kernel_rfl) (by kernel_rfl) (fun _=>by kernel_rfl) lk
end SK.k77
namespace L2
open PySem PySem.Spec PyProof.Rows
abbrev Key:=Sum Int Str
noncomputable def rC:Key->Value->Bool
 | .inl k,v=>Value.isInt k v
 | .inr x,v=>Value.isStrOf x v
noncomputable def aN5 (w:World):Key->Int
 | .inl k=>hashInt k
 | .inr x=>hashStr w x
theorem bC: ∀ {k:Key} {v:Value},rC k v=true->(∃ i t,k=Sum.inl i/\v=Value.int i t)\/(∃ x t,k=Sum.inr x/\v=Value.str x t)
 | .inl i,v,h=>by
  obtain⟨t,e⟩:=Value.isInt_shape (k:=i) (v:=v) h
  exact .inl ⟨i,t,rfl,e⟩
 | .inr x,v,h=>by
  obtain⟨t,e⟩:=Value.isStrOf_shape (x:=x) (v:=v) h
  exact .inr ⟨x,t,rfl,e⟩
theorem sL (i:Int) (t:Tok):rC (.inl i) (.int i t)=true:=by simp [rC,Value.isInt]
theorem sM (x:Str) (t:Tok):rC (.inr x) (.str x t)=true:=by simp [rC,Value.isStrOf]
theorem aGb (a b:Int):decide ((Sum.inl a:Key)=Sum.inl b)=(a==b):=by
 by_cases e:a=b
 ·subst e;simp
 ·have h: ¬ (Sum.inl a:Key)=Sum.inl b:=fun q=>e (Sum.inl.inj q)
  rw [decide_eq_false h]
  exact(beq_eq_false_iff_ne.mpr e).symm
theorem aGc (a b:Str):decide ((Sum.inr a:Key)=Sum.inr b)=decide (a=b):=by
 by_cases e:a=b
 ·subst e;simp
 ·have h: ¬ (Sum.inr a:Key)=Sum.inr b:=fun q=>e (Sum.inr.inj q)
  rw [decide_eq_false h,decide_eq_false e]
theorem aGd (a:Int) (b:Str):decide ((Sum.inl a:Key)=Sum.inr b)=false:=decide_eq_false (fun q=>nomatch q)
theorem aGe (a:Str) (b:Int):decide ((Sum.inr a:Key)=Sum.inl b)=false:=decide_eq_false (fun q=>nomatch q)
noncomputable def bK (prog:Program) (w:World):PySem.KeyKind prog w Key where
 is:=rC
 hash:=aN5 w
 inj:=fun v a b ha hb=>by
  rcases bC ha with ⟨i,t,rfl,rfl⟩ | ⟨x,t,rfl,rfl⟩
  ·rcases bC hb with ⟨j,u,rfl,e⟩ | ⟨y,u,rfl,e⟩
   ·injection e with e1 _;rw [e1]
   ·exact nomatch e
  ·rcases bC hb with ⟨j,u,rfl,e⟩ | ⟨y,u,rfl,e⟩
   ·exact nomatch e
   ·injection e with e1 _;rw [e1]
 byValue:=fun k v h=>by
  rcases bC h with ⟨i,t,rfl,rfl⟩ | ⟨x,t,rfl,rfl⟩<;>rfl
 pyHash:=fun hv h=>by
  rcases bC hv with ⟨i,t,rfl,rfl⟩ | ⟨x,t,rfl,rfl⟩
  ·exact wpAny_pyHash_int h
  ·exact wpAny_pyHash_str h
 eqBool:=fun hu hv h=>by
  rcases bC hu with ⟨i,t,rfl,rfl⟩ | ⟨x,t,rfl,rfl⟩
  ·rcases bC hv with ⟨j,u,rfl,rfl⟩ | ⟨y,u,rfl,rfl⟩
   ·rw [aGb] at h;exact wpAny_eqBool_int h
   ·rw [aGd] at h;exact SeqAt.EqAt.int_str i t y u _ _ _ _ h
  ·rcases bC hv with ⟨j,u,rfl,rfl⟩ | ⟨y,u,rfl,rfl⟩
   ·rw [aGe] at h;exact SeqAt.EqAt.str_int x t j u _ _ _ _ h
   ·rw [aGc] at h;exact wpAny_eqBool_str h
 «strs»:=fun k x t v h=>by
  rcases bC h with ⟨i,u,rfl,e⟩ | ⟨y,u,rfl,e⟩
  ·exact nomatch e
  ·injection e with e1 _
   subst e1
   cases v<;>rfl
theorem nL (prog:Program) (w:World) (i:Int) (t:Tok):(bK prog w).is (.inl i) (.int i t)=true:=sL i t
theorem nM (prog:Program) (w:World) (x:Str) (t:Tok):(bK prog w).is (.inr x) (.str x t)=true:=sM x t
inductive V where
 | non | bl (b:Bool) | int (i:Int) | str (x:Str) | byt (b:Array UInt8) | flt (b:UInt64) | ref (a:Addr) | ty (n:String)
 deriving DecidableEq
noncomputable def aP:V->Value->Prop
 | .non,u=>u=Value.none
 | .bl b,u=>u=Value.bool b
 | .int i,u=> ∃ t,u=Value.int i t
 | .str x,u=> ∃ t,u=Value.str x t
 | .byt b,u=> ∃ t,u=Value.bytes b t
 | .flt b,u=> ∃ t,u=Value.float b t
 | .ref a,u=>u=Value.ref a
 | .ty n,u=>u=Value.type n
noncomputable abbrev aY:List V->List Value->Prop:=Paired aP
theorem aY.length {xs:List V} {us:List Value} (r:aY xs us):xs.length=us.length:=Paired.length r
theorem aY.get: ∀ {xs:List V} {us:List Value} {i:Nat} {x:V},aY xs us->xs[i]? =some x-> ∃ u,us[i]? =some u/\aP x u
 | _,_,_,_, .nil,e=>by simp at e
 | _,_,0,_, .cons r _,e=>by simp at e;subst e;exact⟨_,rfl,r⟩
 | _,_,i+1,x, .cons _ t,e=>by
  obtain⟨u,h1,h2⟩:=aY.get (i:=i) (x:=x) t (by simpa using e)
  exact⟨u,by simpa using h1,h2⟩
theorem aY.set {x:V} {u:Value} (r:aP x u): ∀ {xs:List V} {us:List Value} (i:Nat),aY xs us->aY (xs.set i x) (us.set i u)
 | _,_,_, .nil=> .nil
 | _,_,0, .cons _ t=> .cons r t
 | _,_,i+1, .cons q t=> .cons q (aY.set r i t)
theorem aY.append: ∀ {xs ys:List V} {us ws:List Value},aY xs us->aY ys ws->aY (xs++ys) (us++ws)
 | _,_,_,_, .nil,s=>s
 | _,_,_,_, .cons r t,s=> .cons r (aY.append t s)
theorem aY.take: ∀ {xs:List V} {us:List Value} (n:Nat),aY xs us->aY (xs.take n) (us.take n)
 | _,_,0,_=> .nil
 | _,_,_+1, .nil=> .nil
 | _,_,n+1, .cons r t=> .cons r (aY.take n t)
theorem aY.drop: ∀ {xs:List V} {us:List Value} (n:Nat),aY xs us->aY (xs.drop n) (us.drop n)
 | _,_,0,r=>r
 | _,_,_+1, .nil=> .nil
 | _,_,n+1, .cons _ t=>aY.drop n t
noncomputable def kH:Option V->Option Value->Prop
 | some v,some u=>aP v u
 | none,none=>True
 | _,_=>False
noncomputable def KV {κ:Type}:List (κ×V)->List (κ×Value)->Prop:=Paired fun(p:κ×V) (q:κ×Value)=>p.1=q.1/\aP p.2 q.2
noncomputable def kV:Key->V
 | .inl i=> .int i
 | .inr x=> .str x
inductive HO where
 /-- a list -/
 | lst (xs:List V)
 /-- a tuple (never changes) -/
 | tup (xs:List V)
 /-- a dict whose keys are ints and texts;one whose keys are tuples of ints and texts (the empty one is both) -/
 | dK (kvs:List (Key×V)) | dT (kvs:List (List Key×V))
 /-- a set of ints:its members,its size -/
 | set (S:Int->Bool) (n:Nat)
 /-- an instance of the class at C,its dict at dx,its attributes -/
 | ins (C dx:Addr) (fs:List (Str×V))
 /-- the dict of the instance at x -/
 | own (x:Addr)
 /-- the dict of an exception -/
 | xd (fs:List (Str×V))
 /-- a bound method,f of x -/
 | met (f x:Addr)
 /-- a range object lo,lo+1, .. below hi -/
 | rng (lo hi:Int)
 /-- a thing that is known to the object (the script;a dict while a loop walks it):read,never written while it is so -/
 | frz (o:Obj) (u:HO)
 /-- a code object's table -/
 | tbl (ps:Array Value)
 /-- any other thing,by what is true of its one object (a def of one's own:SetO a S n:=HO.ext fun h=> ..) -/
 | ext (φ:Heap->Prop)
abbrev Hp:=Addr->Option HO
noncomputable def upd (H:Hp) (a:Addr) (o:HO):Hp:=fun b=>if b=a then some o else H b
theorem aE {H:Hp} {a:Addr} {o:HO}:upd H a o a=some o:=by unfold upd;rw [if_pos rfl]
theorem aA {H:Hp} {a b:Addr} {o:HO} (h:b≠a):upd H a o b=H b:=by unfold upd;rw [if_neg h]
theorem aK1 {H:Hp} {a b:Addr} {o u:HO} (h:H a=some o) (h':H b=some u) (d:o≠u):a≠b:=by
 intro e;subst e;rw [h] at h';exact d (Option.some.inj h')
theorem aN {H:Hp} {a b:Addr} {o:HO} (h:H a=some o) (h':H b=none):a≠b:=by
 intro e;subst e;rw [h] at h';cases h'
def aGf (h:Heap) (a:Addr):Prop:= ∃ o,h.get? a=some o/\o.dict=none
section
variable (P:Program) (w:World)
noncomputable def ObjOk (H:Hp) (h:Heap) (a:Addr):HO->Prop
 | .lst xs=>xs.length<=sizeLine/\ ∃ (its:List Value) (n:Nat),aY xs its/\h.get? a=some { cls:= .type "list",data:= .seq its.toArray n }
 | .tup xs=>xs.length<=sizeLine/\ ∃ its:List Value,aY xs its/\IsTup h a its.toArray/\aGf h a
 | .dK kvs=>kvs.length<=sizeLine/\(a==sysModules)=false/\ ∃ vs,KV kvs vs/\h.DictOf (bK P w) a vs
 | .dT kvs=>kvs.length<=sizeLine/\(a==sysModules)=false/\ ∃ xs:List (List Key×Addr×Value),
   Paired (fun(p:List Key×V) (q:List Key×Addr×Value)=>p.1=q.1/\H q.2.1=some (.tup (p.1.map kV))/\aP p.2 q.2.2) kvs xs/\
   ∃ o es ep,h.get? a=some o/\o.ExactDict/\o.data= .dict es ep/\es.toList=xs.map (entryOfKey (tupleKind (bK P w)))/\(xs.map (·.1)).Nodup
 | .set S n=>h.SetOf (intKind P w) a S n
 | .ins C dx fs=>H dx=some (.own a)/\fs.length<=1000/\dx≠a/\h.get? a=some (PySem.W.instObj C dx)/\
   ∃ mA,h.Ns1 dx mA/\(∀ f,kH (fs.lookup f) (mA f))/\PySem.Within mA (fs.map (·.1))
 | .own _=> ∃ o,h.get? a=some o
 | .xd fs=> ∃ mA,h.Ns1 a mA/\ ∀ f,kH (fs.lookup f) (mA f)
 | .rng lo hi=> ∃ t u v,h.get? a=some { cls:= .type "range",data:= .fields #[.int lo t, .int hi u, .int 1 v] }
 | .frz o u=>h.get? a=some o/\ObjOk H h a u
 | .tbl ps=>h.get? a=some { cls:= .none,data:= .fields ps }
 | .met f x=>h.get? a=some (PySem.W.methodObj (.ref f) (.ref x))
 | .ext φ=>φ h/\(∃ o,h.get? a=some o)/\ ∀ h1 h2:Heap,φ h1->(∀ o,h1.get? a=some o->h2.get? a=some o)->φ h2
def HOk (H:Hp) (h:Heap):Prop:= ∀ a o,H a=some o->ObjOk P w H h a o
end
section
variable {P:Program} {w:World} {H H':Hp} {h h':Heap} {a:Addr} {o:HO}
theorem ObjOk.lt (x:ObjOk P w H h a o):a<h.objs.size:=by
 cases o with
 | lst xs=>obtain⟨_,_,_,_,e⟩:=x;exact ah e
 | tup xs=>obtain⟨_,_,_,p,_⟩:=x;exact p.lt
 | dK kvs=>obtain⟨_,_,_,_,o,_,_,e,_⟩:=x;exact ah e
 | dT kvs=>obtain⟨_,_,_,_,o,_,_,e,_⟩:=x;exact ah e
 | set S n=>obtain⟨o,_,_,_,e,_⟩:=x;exact ah e
 | ins C dx fs=>obtain⟨_,_,_,e,_⟩:=x;exact ah e
 | own y=>obtain⟨_,e⟩:=x;exact ah e
 | xd fs=>obtain⟨_,⟨_,_,_,e,_⟩,_⟩:=x;exact ah e
 | rng lo hi=>obtain⟨_,_,_,e⟩:=x;exact ah e
 | frz ob u=>obtain⟨e,_⟩:=x;exact ah e
 | tbl ps=>exact ah (show h.get? a=some _ from x)
 | met f y=>exact ah (show h.get? a=some _ from x)
 | ext φ=>obtain⟨_,⟨_,e⟩,_⟩:=x;exact ah e
theorem Paired.mapP {α β:Type} {F G:α->β->Prop}: ∀ {l₁:List α} {l₂:List β},Paired F l₁ l₂->(∀ a b,F a b->G a b)->Paired G l₁ l₂
 | _,_, .nil,_=> .nil
 | _,_, .cons r t,f=> .cons (f _ _ r) (Paired.mapP t f)
theorem ObjOk.stay (x:ObjOk P w H h a o) (k: ∀ b u,(b=a\/H b=some (.own a))->h.get? b=some u->h'.get? b=some u)
  (ho: ∀ b,H b=some (.own a)->H' b=some (.own a)) (ht: ∀ b xs,H b=some (.tup xs)->H' b=some (.tup xs)):ObjOk P w H' h' a o:=by
 induction o with
 | lst xs=>obtain⟨z,its,n,r,e⟩:=x;exact⟨z,its,n,r,k _ _ (.inl rfl) e⟩
 | tup xs=>obtain⟨z,its,r,⟨ob,e,c⟩,od,e',d⟩:=x;exact⟨z,its,r,⟨ob,k _ _ (.inl rfl) e,c⟩,od,k _ _ (.inl rfl) e',d⟩
 | dK kvs=>obtain⟨z,y,vs,r,ob,es,ep,e,c⟩:=x;exact⟨z,y,vs,r,ob,es,ep,k _ _ (.inl rfl) e,c⟩
 | dT kvs=>
  obtain⟨z,y,xs,r,ob,es,ep,e,c⟩:=x
  exact⟨z,y,xs,Paired.mapP r fun p q z=>⟨z.1,ht _ _ z.2.1,z.2.2⟩,ob,es,ep,k _ _ (.inl rfl) e,c⟩
 | set S n=>obtain⟨ob,es,ep,t,e,c⟩:=x;exact⟨ob,es,ep,t,k _ _ (.inl rfl) e,c⟩
 | ins C dx fs=>
  obtain⟨d,z,ne,e,mA,⟨od,es,ep,e2,c⟩,r⟩:=x
  exact⟨ho _ d,z,ne,k _ _ (.inl rfl) e,mA,⟨od,es,ep,k _ _ (.inr d) e2,c⟩,r⟩
 | own y=>obtain⟨ob,e⟩:=x;exact⟨ob,k _ _ (.inl rfl) e⟩
 | xd fs=>obtain⟨mA,⟨od,es,ep,e,c⟩,r⟩:=x;exact⟨mA,⟨od,es,ep,k _ _ (.inl rfl) e,c⟩,r⟩
 | rng lo hi=>obtain⟨t,u,v,e⟩:=x;exact⟨t,u,v,k _ _ (.inl rfl) e⟩
 | frz ob u ih=>obtain⟨e,q⟩:=x;exact⟨k _ _ (.inl rfl) e,ih q⟩
 | tbl ps=>
  have e:h.get? a=some { cls:= .none,data:= .fields ps }:=x
  show h'.get? a=some { cls:= .none,data:= .fields ps }
  exact k a _ (.inl rfl) e
 | met f y=>
  have e:h.get? a=some (PySem.W.methodObj (.ref f) (.ref y)):=x
  show h'.get? a=some (PySem.W.methodObj (.ref f) (.ref y))
  exact k a _ (.inl rfl) e
 | ext φ=>obtain⟨p,⟨o,e⟩,st⟩:=x;exact⟨st _ _ p fun o q=>k _ _ (.inl rfl) q,⟨o,k _ _ (.inl rfl) e⟩,st⟩
theorem HOk.lt (x:HOk P w H h) (e:H a=some o):a<h.objs.size:=(x a o e).lt
theorem HOk.fresh (x:HOk P w H h) (e:h.objs.size<=a):H a=none:=by
 cases q:H a with
 | none=>rfl
 | some u=>exact absurd (bg (x.lt q) e) (Nat.lt_irrefl _)
theorem HOk.kept (x:HOk P w H h) (k: ∀ b u,h.get? b=some u->h'.get? b=some u):HOk P w H h':=fun a o e=>
 (x a o e).stay (fun b u _ q=>k b u q) (fun _ q=>q) fun _ _ q=>q
theorem HOk.laid (x:HOk P w H h) (k: ∀ b u,h.get? b=some u->h'.get? b=some u) (hp:h.objs.size<=a) (new:ObjOk P w (upd H a o) h' a o):HOk P w (upd H a o) h':=fun b u e=>by
 have hn:=x.fresh hp
 by_cases hb:b=a
 ·subst hb;rw [aE] at e;cases e;exact new
 ·rw [aA hb] at e
  exact(x b u e).stay (fun c v _ q=>k c v q) (fun c q=>by rw [aA (aN q hn)];exact q) fun c xs q=>by rw [aA (aN q hn)];exact q
end
def Rd (H:Hp) (a:Addr) (u:HO):Prop:=H a=some u\/ ∃ o,H a=some (.frz o u)
theorem Rd.ok {P:Program} {w:World} {H:Hp} {h:Heap} {a:Addr} {u:HO} (r:Rd H a u) (x:HOk P w H h):ObjOk P w H h a u:=by
 rcases r with r | ⟨o,r⟩
 ·exact x a u r
 ·obtain⟨_,q⟩:=x a _ r
  exact q
noncomputable def Mut:Option HO->Prop
 | some (.lst _)=>True
 | some (.dK _)=>True
 | some (.dT _)=>True
 | some (.set _ _)=>True
 | some (.ins _ _ _)=>True
 | some (.ext _)=>True
 | _=>False
section
variable {P:Program} {w:World} {H:Hp} {h h':Heap} {x e:Addr} {o':HO}
theorem HOk.write (ok:HOk P w H h) (mu:Mut (H x)) (he:e=x\/H e=some (.own x)) (k: ∀ b u,b≠e->h.get? b=some u->h'.get? b=some u) (heo: ∃ u,h'.get? e=some u)
  (new:ObjOk P w (upd H x o') h' x o'):HOk P w (upd H x o') h':=fun b u q=>by
 have nown: ∀ c y,H c=some (.own y)->c≠x:=fun c y r z=>by subst z;rw [r] at mu;exact mu
 have ntup: ∀ c xs,H c=some (.tup xs)->c≠x:=fun c xs r z=>by subst z;rw [r] at mu;exact mu
 by_cases hb:b=x
 ·subst hb;rw [aE] at q;cases q;exact new
 ·rw [aA hb] at q
  by_cases hbe:b=e
  ·have q':H b=some (.own x):=by
    rcases he with z | z
    ·exact absurd (hbe.trans z) hb
    ·rw [hbe];exact z
   rw [q] at q';cases q'
   obtain⟨v,hv⟩:=heo
   exact⟨v,by rw [hbe];exact hv⟩
  ·refine(ok b u q).stay (fun c v hc r=>k c v ?_ r) (fun c r=>by rw [aA (nown c b r)];exact r) fun c xs r=>by rw [aA (ntup c xs r)];exact r
   rcases hc with rfl | hc
   ·exact hbe
   ·rintro rfl
    rcases he with z | z
    ·exact nown c b hc z
    ·rw [hc] at z;cases z;exact hb rfl
end
structure Un (fs ex:List Addr) (H H':Hp) (h h':Heap):Prop where
 keep: ∀ b o,h.get? b=some o->H b=none->b∉fs->b∉ex->h'.get? b=some o
 slot: ∀ b o,h.get? b=some o->H b=none->b∈fs->b∉ex-> ∃ sl,h'.get? b=some { o with slots:=sl }
 free: ∀ b o,h.get? b=some o->H b=none->b∉ex->H' b=none
 there: ∀ b o,h.get? b=some o->b∉ex-> ∃ o',h'.get? b=some o'
 tups: ∀ b xs,H b=some (.tup xs)->H' b=some (.tup xs)
 frzs: ∀ b o u,H b=some (.frz o u)->H' b=some (.frz o u)
 tbls: ∀ b ps,H b=some (.tbl ps)-> ∃ more,H' b=some (.tbl (ps++more))
section
variable {fs fs' ex ex':List Addr} {H H1 H2:Hp} {h h1 h2 h':Heap} {a x e:Addr} {o:HO}
theorem Un.any (u:Un fs ex H H1 h h1) {b:Addr} {ob:Obj} (q:h.get? b=some ob) (n:H b=none) (hx:b∉ex): ∃ sl,h1.get? b=some { ob with slots:=sl }:=by
 by_cases hb:b∈fs
 ·exact u.slot b ob q n hb hx
 ·exact⟨ob.slots,u.keep b ob q n hb hx⟩
theorem Un.kept (k: ∀ b u,h.get? b=some u->h'.get? b=some u):Un fs ex H H h h':=
 ⟨fun b ob q _ _ _=>k b ob q,fun b ob q _ _ _=>⟨ob.slots,k b ob q⟩,fun _ _ _ n _=>n,fun b ob q _=>⟨ob,k b ob q⟩,fun _ _ q=>q,fun _ _ _ q=>q,fun _ ps q=>⟨#[],by rw [q];simp⟩⟩
theorem Un.refl:Un fs ex H H h h:=Un.kept fun _ _ q=>q
theorem Un.laid (k: ∀ b u,h.get? b=some u->h'.get? b=some u) (hp:h.objs.size<=a) (hn:H a=none):Un fs ex H (upd H a o) h h' where
 keep:=fun b u q _ _ _=>k b u q
 slot:=fun b u q _ _ _=>⟨u.slots,k b u q⟩
 free:=fun b u q n _=>by rw [aA (bh (bg (ah q) hp))];exact n
 there:=fun b u q _=>⟨u,k b u q⟩
 tups:=fun b xs q=>by rw [aA (aN q hn)];exact q
 frzs:=fun b u xs q=>by rw [aA (aN q hn)];exact q
 tbls:=fun b ps q=>⟨#[],by rw [aA (aN q hn),q];simp⟩
theorem Un.write (mu:Mut (H x)) (he:e=x\/H e=some (.own x)) (k: ∀ b u,b≠e->h.get? b=some u->h'.get? b=some u) (heo: ∃ u,h'.get? e=some u):Un fs ex H (upd H x o) h h':=by
 have hx: ∀ b,H b=none->b≠x:=fun b n z=>by subst z;rw [n] at mu;exact mu
 have hb: ∀ b,H b=none->b≠e:=fun b n z=>by
  subst z
  rcases he with r | r
  ·exact hx b n r
  ·rw [n] at r;cases r
 have hm: ∀ b u,H b=some u-> ¬ Mut (some u)->b≠x:=fun b u q nm z=>by subst z;rw [q] at mu;exact nm mu
 refine⟨fun b u q n _ _=>k b u (hb b n) q,fun b u q n _ _=>⟨u.slots,k b u (hb b n) q⟩,fun b u q n _=>by rw [aA (hx b n)];exact n,fun b u q _=> ?_,
  fun b xs q=>by rw [aA (hm b _ q fun z=>z)];exact q,fun b u xs q=>by rw [aA (hm b _ q fun z=>z)];exact q,fun b ps q=>⟨#[],by rw [aA (hm b _ q fun z=>z),q];simp⟩⟩
 by_cases hbe:b=e
 ·subst hbe;exact heo
 ·exact⟨u,k b u hbe q⟩
end
noncomputable def trk (h:Heap) (H:Hp):List Addr:=(List.range h.objs.size).filter fun a=>(H a).isSome
noncomputable def aGg (h:Heap) (H:Hp):Heap:=PySem.W.hideAll h (trk h H)
theorem sN (h:Heap) (H:Hp):(aGg h H).objs.size=h.objs.size:=PySem.W.hideAll_size _ _
theorem xJ {h:Heap} {H:Hp} {b:Addr} {o:Obj} (e:h.get? b=some o) (n:H b=none):(aGg h H).get? b=some o:=
 PySem.W.hideAll_get _ e fun hm=>by
  have q:(H b).isSome=true:=(List.mem_filter.mp hm).2
  rw [n] at q;simp at q
theorem nN {h:Heap} {H:Hp} {b:Addr} {o:Obj} (e:(aGg h H).get? b=some o):h.get? b=some o/\H b=none:=by
 have e':h.get? b=some o:=PySem.W.of_hideAll (trk h H) e
 refine⟨e', ?_⟩
 cases q:H b with
 | none=>rfl
 | some x=>
  have hm:b∈trk h H:=List.mem_filter.mpr ⟨zPd (ah e'),by simp [q]⟩
  have z:(aGg h H).get? b=none:=PySem.W.hideAll_none (trk h H) hm
  rw [z] at e;cases e
noncomputable def aB3 (g h:Heap) (L:Addr):List (Addr×Obj):=(List.range h.objs.size).filterMap fun a=>if a=L\/(g.get? a).isSome=true then none else(h.get? a).map fun o=>(a,o)
noncomputable def cI (g h:Heap) (L d:Addr):List (Addr×Obj):=(aB3 g h L).filter fun p=>decide (p.1≠d)
structure Mod (K:PySem.W.Frag) (mg:Str->Option Value) (base:Heap):Prop where
 kin:K.In base
 glob:base.Ns mainGlobals mg
 blt: ∃ mb,base.Ns builtinsNs mb/\ ∀ x:Str,x≠"__name__"->mb x=bootBuiltins x
 nolimit:base.NoLimit
structure Cx where
 prog:Program
 w:World
 K:PySem.W.Frag
 mg:Str->Option Value
 base:Heap
 A:Around
 N:List Str
 s₀:Shared
 H₀:Hp
 env:Env
 outer:List Env
 stack:List Env
 ex:List Addr
 fn:Str->Bool
 calm:Bool
 pn:List (Addr×Obj)
 xe:Value->Shared->Prop
noncomputable def frs (l:List Env):List Addr:=l.filterMap (·.frame)
noncomputable abbrev Cx.fs (X:Cx):List Addr:=frs X.outer
def Vis (sc:Scope) (x:Str):Prop:=sc.names.lookup x=some .local\/sc.names.lookup x=some .cell\/sc.names.lookup x=some .free
def Loc (sc:Scope) (x:Str):Prop:=sc.names.lookup x=some .local\/sc.names.lookup x=some .cell
def aN6 (env:Env) (h:Heap) (m:Str->Option Value) (x:Str) (u:Value):Prop:=
 (env.kindOf x=some .local/\m x=some u)\/((env.kindOf x=some .cell\/env.kindOf x=some .free)/\ ∃ c,env.cells.lookup x=some c/\h.IsCell c (some u))
structure Cx.Ok (X:Cx):Prop where
 mod:Mod X.K X.mg X.base
 kind:X.env.scope.kind= .function
 glob:X.env.globals=mainGlobals
 blt:X.env.builtins=builtinsNs
 above:X.s₀.heap.objs.size<=X.env.locals
 inj: ∀ x y c,X.env.cells.lookup x=some c->X.env.cells.lookup y=some c->x=y
 has: ∀ x,(X.env.kindOf x=some .cell\/X.env.kindOf x=some .free)-> ∃ c,X.env.cells.lookup x=some c
 cab: ∀ x c,X.fn x=true->X.env.cells.lookup x=some c->X.s₀.heap.objs.size<=c
 hd:X.calm=true->X.A.handled=none
 frames:X.A.frames=some X.stack
 stk:X.stack=X.outer\/(X.stack=X.env::X.outer/\X.env.frame=some X.env.locals)
 exf: ∀ b∈X.ex,b≠X.env.locals/\ ∀ x c,X.env.cells.lookup x=some c->c≠b
 bs: ∀ b o,X.base.get? b=some o->X.s₀.heap.get? b=some o/\X.H₀ b=none
 bsz:X.base.objs.size<=X.s₀.heap.objs.size
 noex: ∀ b o,X.base.get? b=some o->b∉X.ex
 exfs: ∀ b∈X.ex,b∉X.fs
 funs:X.s₀.heap.FunFrames X.base X.outer
 frf: ∀ b∈X.fs,X.H₀ b=none
structure Inv (X:Cx) (pins:List (Addr×Obj)) (σ:List (Option V)) (H:Hp) (s:Shared):Prop where
 ok:X.Ok
 os:s.os=X.s₀.os
 bare:AllBare s.gens
 base:Un X.fs X.ex X.H₀ H X.s₀.heap s.heap
 loc: ∃ m,s.heap.Ns X.env.locals m/\ ∀ (i:Nat) (x:Str) (v:V),X.N[i]? =some x->σ[i]? =some (some v)->Vis X.env.scope x-> ∃ u,aP v u/\aN6 X.env s.heap m x u
 cell: ∀ x c,X.env.cells.lookup x=some c-> ∃ v,s.heap.IsCell c v
 free:H X.env.locals=none
 freeC: ∀ x c,X.env.cells.lookup x=some c->H c=none
 pin: ∀ p∈X.pn++pins,s.heap.get? p.1=some p.2/\H p.1=none/\p.1≠X.env.locals/\p.1∉X.fs/\ ∀ v,p.2.data≠ .cell v
 hok:HOk X.prog X.w H s.heap
 len:σ.length=X.N.length
section
variable {X:Cx} {pins:List (Addr×Obj)} {σ:List (Option V)} {H H':Hp} {s:Shared} {h':Heap}
theorem Cx.Ok.nofr (ok:X.Ok) {b:Addr} {o:Obj} (e:X.base.get? b=some o):b∉X.fs:=fun hb=>by
 have:=(ok.funs.mem hb).1
 rw [e] at this;cases this
theorem Inv.bs (I:Inv X pins σ H s): ∀ b o,X.base.get? b=some o->s.heap.get? b=some o/\H b=none:=fun b o e=>
 ⟨I.base.keep b o (I.ok.bs b o e).1 (I.ok.bs b o e).2 (I.ok.nofr e) (I.ok.noex b o e),I.base.free b o (I.ok.bs b o e).1 (I.ok.bs b o e).2 (I.ok.noex b o e)⟩
theorem Inv.bk (I:Inv X pins σ H s): ∀ b o,X.base.get? b=some o->s.heap.get? b=some o:=fun b o e=>(I.bs b o e).1
theorem Inv.mod (I:Inv X pins σ H s):Mod X.K X.mg X.base:=I.ok.mod
theorem Inv.kIn (I:Inv X pins σ H s):X.K.In s.heap:=I.ok.mod.kin.keeps I.bk
theorem Inv.lt (I:Inv X pins σ H s):X.env.locals<s.heap.objs.size:=let ⟨_,hn,_⟩:=I.loc;hn.lt
theorem Inv.sz (I:Inv X pins σ H s):X.s₀.heap.objs.size<=s.heap.objs.size:=Nat.le_trans I.ok.above (Nat.le_of_lt I.lt)
theorem Inv.nofs (I:Inv X pins σ H s) {a:Addr} (h:s.heap.objs.size<=a):a∉X.fs:=fun hb=>by
 obtain⟨_,o,ho,_⟩:=I.ok.funs.mem hb
 exact absurd (bg (ah ho) (Nat.le_trans I.sz h)) (Nat.lt_irrefl _)
theorem Inv.cne (I:Inv X pins σ H s): ∀ x c,X.env.cells.lookup x=some c->c≠X.env.locals:=fun x c e z=>by
 obtain⟨v,o,ho,hd⟩:=I.cell x c e
 obtain⟨m,⟨o',es,ep,ho',hd',_⟩,_⟩:=I.loc
 rw [z,ho'] at ho;cases ho;rw [hd'] at hd;cases hd
theorem Inv.funs (I:Inv X pins σ H s):s.heap.FunFrames X.base X.outer:=by
 have all: ∀ (l:List Env),(∀ b∈frs l,b∈X.fs)->X.s₀.heap.FunFrames X.base l->s.heap.FunFrames X.base l:=by
  intro l
  induction l with
  | nil=>intro _ _;trivial
  | cons env r ih=>
   intro hs hl
   obtain⟨hk,⟨L,o,hf,hn,ho,hd⟩,hr⟩:=hl
   have hL:L∈X.fs:=hs L (by unfold frs;rw [List.filterMap_cons,hf];exact List.mem_cons_self)
   obtain⟨sl,e⟩:=I.base.slot L o ho (I.ok.frf L hL) hL fun z=>I.ok.exfs L z hL
   exact⟨hk,⟨L,_,hf,hn,e,hd⟩,ih (fun b hb=>hs b (by unfold frs;rw [List.filterMap_cons,hf];exact List.mem_cons_of_mem _ hb)) hr⟩
 exact all X.outer (fun _ hb=>hb) I.ok.funs
theorem Inv.stack (I:Inv X pins σ H s):s.heap.FunFrames X.base X.stack:=by
 rcases I.ok.stk with e | ⟨e,hf⟩
 ·rw [e];exact I.funs
 ·rw [e]
  obtain⟨m,hn,_⟩:=I.loc
  refine .cons (by rw [I.ok.kind];decide) hf hn ?_ I.funs
  exact Heap.get?_none_of_le (Nat.le_trans I.ok.bsz I.ok.above)
theorem Inv.stkSub (I:Inv X pins σ H s): ∀ b∈frs X.stack,b∈X.env.locals::X.fs:=fun b hb=>by
 rcases I.ok.stk with e | ⟨e,hf⟩
 ·rw [e] at hb;exact List.mem_cons_of_mem _ hb
 ·rw [e] at hb
  unfold frs at hb
  rw [List.filterMap_cons,hf] at hb
  exact hb
theorem Inv.stkFree (I:Inv X pins σ H s): ∀ b∈frs X.stack,H b=none:=fun b hb=>by
 rcases au.mp (I.stkSub b hb) with e | hb
 ·rw [e];exact I.free
 ·obtain⟨_,o,ho,_⟩:=I.ok.funs.mem hb
  exact I.base.free b o ho (I.ok.frf b hb) fun z=>I.ok.exfs b z hb
theorem Inv.step {g':Array GenState} {t':Nat} {d':Drawn} {ch:List Addr} (I:Inv X pins σ H s)
  (hch: ∀ b∈ch,(b∈X.ex\/X.s₀.heap.objs.size<=b)/\b≠X.env.locals/\(∀ x c,X.env.cells.lookup x=some c->c≠b)/\ ∀ p∈X.pn++pins,p.1≠b)
  (keep: ∀ b o,b≠X.env.locals->b∉X.fs->b∉ch->s.heap.get? b=some o->H b=none->h'.get? b=some o)
  (slot: ∀ b o,b≠X.env.locals->b∈X.fs->b∉ch->s.heap.get? b=some o->H b=none-> ∃ sl,h'.get? b=some { o with slots:=sl }) (free: ∀ b o,b∉ch->s.heap.get? b=some o->H b=none->H' b=none)
  (there: ∀ b o,b∉ch->s.heap.get? b=some o-> ∃ o',h'.get? b=some o')
  (tups: ∀ b xs,H b=some (.tup xs)->H' b=some (.tup xs)) (frzs: ∀ b o u,H b=some (.frz o u)->H' b=some (.frz o u)) (tbls: ∀ b ps,H b=some (.tbl ps)-> ∃ more,H' b=some (.tbl (ps++more)))
  (ns: ∀ m,s.heap.Ns X.env.locals m->h'.Ns X.env.locals m) (hok:HOk X.prog X.w H' h') (hg:AllBare g'):
  Inv X pins σ H' { s with heap:=h',gens:=g',drawn:=d',toks:=t' }:=by
 have neL: ∀ b o,X.s₀.heap.get? b=some o->b≠X.env.locals:=fun b o e=>bh (bg (ah e) I.ok.above)
 have neC: ∀ b o,X.s₀.heap.get? b=some o->b∉X.ex->b∉ch:=fun b o e hx hb=>by
  rcases(hch b hb).1 with z | z
  ·exact hx z
  ·exact absurd (bg (ah e) z) (Nat.lt_irrefl _)
 have cellK: ∀ x c,X.env.cells.lookup x=some c-> ∀ v,s.heap.IsCell c v->h'.IsCell c v:=fun x c e v ⟨o,ho,hd⟩=>by
  have nch:c∉ch:=fun z=>(hch c z).2.2.1 x c e rfl
  by_cases hc:c∈X.fs
  ·obtain⟨sl,q⟩:=slot c o (I.cne x c e) hc nch ho (I.freeC x c e)
   exact⟨_,q,hd⟩
  ·exact⟨o,keep c o (I.cne x c e) hc nch ho (I.freeC x c e),hd⟩
 refine⟨I.ok,I.os,hg,⟨fun b o e n hb hx=> ?_,fun b o e n hb hx=> ?_,fun b o e n hx=> ?_,fun b o e hx=> ?_,fun b xs e=>tups b xs (I.base.tups b xs e),fun b o xs e=>frzs b o xs (I.base.frzs b o xs e),fun b ps e=> ?_⟩, ?_,fun x c e=> ?_, ?_,fun x c e=> ?_,fun p hp=> ?_,hok,I.len⟩
 ·exact keep b o (neL b o e) hb (neC b o e hx) (I.base.keep b o e n hb hx) (I.base.free b o e n hx)
 ·obtain⟨sl,e1⟩:=I.base.slot b o e n hb hx
  obtain⟨sl',e2⟩:=slot b _ (neL b o e) hb (neC b o e hx) e1 (I.base.free b o e n hx)
  exact⟨sl',e2⟩
 ·obtain⟨o',e1⟩:=I.base.there b o e hx
  exact free b o' (neC b o e hx) e1 (I.base.free b o e n hx)
 ·obtain⟨o',e1⟩:=I.base.there b o e hx
  exact there b o' (neC b o e hx) e1
 ·obtain⟨m1,e1⟩:=I.base.tbls b ps e
  obtain⟨m2,e2⟩:=tbls b _ e1
  exact⟨m1++m2,by rw [e2,Array.append_assoc]⟩
 ·obtain⟨m,hn,hl⟩:=I.loc
  refine⟨m,ns m hn,fun i x v e1 e2 e3=> ?_⟩
  obtain⟨u,r,l⟩:=hl i x v e1 e2 e3
  refine⟨u,r, ?_⟩
  rcases l with l | ⟨k,c,e,z⟩
  ·exact .inl l
  ·exact .inr ⟨k,c,e,cellK x c e _ z⟩
 ·obtain⟨v,z⟩:=I.cell x c e
  exact⟨v,cellK x c e v z⟩
 ·obtain⟨m,⟨o,_,_,ho,_⟩,_⟩:=I.loc
  exact free _ o (fun z=>(hch _ z).2.1 rfl) ho I.free
 ·obtain⟨v,o,ho,hd⟩:=I.cell x c e
  exact free c o (fun z=>(hch c z).2.2.1 x c e rfl) ho (I.freeC x c e)
 ·obtain⟨e,n,ne,nf,d⟩:=I.pin p hp
  have nch:p.1∉ch:=fun z=>(hch p.1 z).2.2.2 p hp rfl
  exact⟨keep p.1 p.2 ne nf nch e n,free p.1 p.2 nch e n,ne,nf,d⟩
theorem Inv.un {t':Nat} (I:Inv X pins σ H s) (u:Un X.fs [] H H' s.heap h') (hok:HOk X.prog X.w H' h'):Inv X pins σ H' { s with heap:=h',toks:=t' }:=by
 obtain⟨m,⟨o,es,ep,ho,r⟩,_⟩:=id I.loc
 obtain⟨sl,hL⟩:=u.any ho I.free (by simp)
 exact I.step (g':=s.gens) (d':=s.drawn) (ch:=[]) (fun _ z=>nomatch z) (fun b o _ hb _ e n=>u.keep b o e n hb (by simp)) (fun b o _ hb _ e n=>u.slot b o e n hb (by simp)) (fun b o _ e n=>u.free b o e n (by simp)) (fun b o _ e=>u.there b o e (by simp)) u.tups u.frzs u.tbls (fun m' hm=>by
  obtain⟨o',es',ep',ho',r'⟩:=hm
  rw [ho] at ho';cases ho'
  exact⟨_,es',ep',hL,r'⟩) hok I.bare
theorem Inv.call {g':Array GenState} {t':Nat} {d':Drawn} {ch:List Addr} (I:Inv X pins σ H s) (u:Un (frs X.stack) ch H H' s.heap h') (hok:HOk X.prog X.w H' h') (hg:AllBare g')
  (hch: ∀ b∈ch,(b∈X.ex\/X.s₀.heap.objs.size<=b)/\b≠X.env.locals/\(∀ x c,X.env.cells.lookup x=some c->c≠b)/\ ∀ p∈X.pn++pins,p.1≠b):
  Inv X pins σ H' { s with heap:=h',gens:=g',drawn:=d',toks:=t' }:=by
 obtain⟨m,⟨o,es,ep,ho,r⟩,_⟩:=id I.loc
 obtain⟨sl,hL⟩:=u.any ho I.free fun z=>(hch _ z).2.1 rfl
 exact I.step (ch:=ch) hch (fun b o hL hb hc e n=>u.keep b o e n (fun z=>(au.mp (I.stkSub b z)).elim hL hb) hc) (fun b o _ _ hc e n=>u.any e n hc) (fun b o hc e n=>u.free b o e n hc) (fun b o hc e=>u.there b o e hc) u.tups u.frzs u.tbls (fun m' hm=>by
  obtain⟨o',es',ep',ho',r'⟩:=hm
  rw [ho] at ho';cases ho'
  exact⟨_,es',ep',hL,r'⟩) hok hg
theorem Inv.turned {t':Nat} {it:Addr} (I:Inv X pins σ H s) (k: ∀ b o,b≠it->s.heap.get? b=some o->h'.get? b=some o) (hn:H it=none) (hL:it≠X.env.locals)
  (h1:it∈X.ex\/X.s₀.heap.objs.size<=it) (h2: ∀ x c,X.env.cells.lookup x=some c->c≠it) (h3: ∀ p∈X.pn++pins,p.1≠it):Inv X pins σ H { s with heap:=h',toks:=t' }:=by
 have nit: ∀ b u,H b=some u->b≠it:=fun b u e z=>by rw [z,hn] at e;cases e
 refine I.step (g':=s.gens) (d':=s.drawn) (ch:=[it]) (fun b hb=> ?_) (fun b o _ _ hc e _=>k b o (fun z=>hc (by simp [z])) e) (fun b o _ _ hc e _=>⟨o.slots,k b o (fun z=>hc (by simp [z])) e⟩) (fun _ _ _ _ n=>n)
  (fun b o hc e=>⟨o,k b o (fun z=>hc (by simp [z])) e⟩) (fun _ _ e=>e) (fun _ _ _ e=>e) (fun b ps e=>⟨#[],by rw [e];simp⟩) (fun m hm=> ?_) (fun b u e=> ?_) I.bare
 ·have e:b=it:=by simpa using hb
  subst e
  exact⟨h1,hL,h2,h3⟩
 ·obtain⟨o,es,ep,ho,r⟩:=hm
  exact⟨o,es,ep,k _ o (Ne.symm hL) ho,r⟩
 ·refine(I.hok b u e).stay (fun c v hc q=>k c v ?_ q) (fun _ q=>q) fun _ _ q=>q
  rcases hc with z | z
  ·rw [z];exact nit b u e
  ·exact nit c _ z
theorem Inv.tok (I:Inv X pins σ H s) (t:Nat):Inv X pins σ H { s with toks:=t }:=I.un (h':=s.heap) (t':=t) Un.refl I.hok
theorem Inv.kept {t':Nat} (I:Inv X pins σ H s) (k: ∀ b u,s.heap.get? b=some u->h'.get? b=some u):Inv X pins σ H { s with heap:=h',toks:=t' }:=I.un (Un.kept k) (I.hok.kept k)
theorem Inv.laid {a:Addr} {o:HO} {t':Nat} (I:Inv X pins σ H s) (k: ∀ b u,s.heap.get? b=some u->h'.get? b=some u) (hp:s.heap.objs.size<=a) (new:ObjOk X.prog X.w (upd H a o) h' a o):
  Inv X pins σ (upd H a o) { s with heap:=h',toks:=t' }:=I.un (Un.laid k hp (I.hok.fresh hp)) (I.hok.laid k hp new)
theorem Inv.write {x e:Addr} {o:HO} {t':Nat} (I:Inv X pins σ H s) (mu:Mut (H x)) (he:e=x\/H e=some (.own x)) (k: ∀ b u,b≠e->s.heap.get? b=some u->h'.get? b=some u) (heo: ∃ u,h'.get? e=some u)
  (new:ObjOk X.prog X.w (upd H x o) h' x o):Inv X pins σ (upd H x o) { s with heap:=h',toks:=t' }:=I.un (Un.write mu he k heo) (I.hok.write mu he k heo new)
theorem Inv.pins_of {pins':List (Addr×Obj)} (I:Inv X pins σ H s) (h: ∀ p∈pins',s.heap.get? p.1=some p.2/\H p.1=none/\p.1≠X.env.locals/\p.1∉X.fs/\ ∀ v,p.2.data≠ .cell v):Inv X pins' σ H s:=
 ⟨I.ok,I.os,I.bare,I.base,I.loc,I.cell,I.free,I.freeC,fun p hp=>(List.mem_append.mp hp).elim (fun z=>I.pin p (List.mem_append_left _ z)) (h p),I.hok,I.len⟩
theorem pA {N:List Str} (hN:N.Nodup) {i j:Nat} {x:Str} (a:N[i]? =some x) (b:N[j]? =some x):i=j:=by
 obtain⟨h1,e1⟩:=ax.mp a
 obtain⟨h2,e2⟩:=ax.mp b
 exact(List.getElem_inj hN).mp (e1.trans e2.symm)
theorem lN {M:Model} {A:Around} {E:Value->Shared->Prop} {i:Nat} {x:Str} {v:V} {u:Value} {Q:Unit->Shared->Prop} (I:Inv X pins σ H s) (hN:X.N.Nodup) (hi:X.N[i]? =some x) (hx:Loc X.env.scope x) (r:aP v u)
  (h: ∀ s',Inv X pins (σ.set i (some v)) H s'->(∃ a,Heap.SameBut a s.heap s'.heap/\(a=X.env.locals\/X.env.cells.lookup x=some a))->Q () s') (hf:X.fn x=true\/X.env.scope.names.lookup x=some .local:=by first | exact .inl rfl | exact .inr rfl | assumption):wpAny M A (storeName X.env x u) Q E s:=by
 obtain⟨m,hn,hl⟩:=id I.loc
 have hcls:(X.env.scope.kind== .class||(X.env.scope.kind== .module&&X.env.locals != X.env.globals))=false:=by rw [I.ok.kind];rfl
 have hiσ:i<σ.length:=by rw [I.len];exact(ax.mp hi).1
 have cne:=I.cne
 have tracked: ∀ {a:Addr} {h':Heap},(∃ o,s.heap.get? a=some o/\H a=none)->Heap.SameBut a s.heap h'->HOk X.prog X.w H h':=fun {a h'} ha hs b ob e=>by
  obtain⟨_,_,hfree⟩:=ha
  refine(I.hok b ob e).stay (fun c w' hc q=>(hs.2 c ?_).trans q) (fun _ q=>q) fun _ _ q=>q
  rintro rfl
  rcases hc with rfl | hc
  ·rw [hfree] at e;cases e
  ·rw [hfree] at hc;cases hc
 rcases hx with hk | hk
 ·refine wpAny_storeName_local hk hn (fun h' hn' hs=> ?_) hcls
  obtain⟨oL,_,_,hoL,_⟩:=id hn
  refine h _ ⟨I.ok,I.os,I.bare,⟨fun b o e n hb hx=> ?_,fun b o e n hb hx=> ?_,I.base.free,fun b o e hx=> ?_,I.base.tups,I.base.frzs,I.base.tbls⟩,⟨_,hn',fun j y v' e1 e2 e3=> ?_⟩,fun y c e=> ?_,I.free,I.freeC,fun p hp=> ?_,tracked ⟨oL,hoL,I.free⟩ hs,by simpa using I.len⟩ ⟨_,hs, .inl rfl⟩
  ·exact(hs.2 b (bh (bg (ah e) I.ok.above))).trans (I.base.keep b o e n hb hx)
  ·obtain⟨sl,e1⟩:=I.base.slot b o e n hb hx
   exact⟨sl,(hs.2 b (bh (bg (ah e) I.ok.above))).trans e1⟩
  ·obtain⟨o',e1⟩:=I.base.there b o e hx
   exact⟨o',(hs.2 b (bh (bg (ah e) I.ok.above))).trans e1⟩
  ·by_cases hj:j=i
   ·subst hj
    rw [hi] at e1;cases e1
    rw [bj hiσ] at e2
    cases e2
    exact⟨u,r, .inl ⟨hk,by simp⟩⟩
   ·rw [ba (Ne.symm hj)] at e2
    obtain⟨u',r',q⟩:=hl j y v' e1 e2 e3
    refine⟨u',r', ?_⟩
    rcases q with ⟨k,e⟩ | ⟨k,c,e,z⟩
    ·refine .inl ⟨k, ?_⟩
     have:y≠x:=fun e=>hj (pA hN e1 (e▸hi))
     simp [this,e]
    ·exact .inr ⟨k,c,e,z.sameBut hs (cne y c e)⟩
  ·obtain⟨w',z⟩:=I.cell y c e
   exact⟨w',z.sameBut hs (cne y c e)⟩
  ·obtain⟨e,n,ne,nf,d⟩:=I.pin p hp
   exact⟨(hs.2 p.1 ne).trans e,n,ne,nf,d⟩
 ·have hfn:X.fn x=true:=by
   rcases hf with z | z
   ·exact z
   ·rw [z] at hk;cases hk
  obtain⟨c,hc⟩:=I.ok.has x (.inl hk)
  obtain⟨w',z⟩:=I.cell x c hc
  refine wpAny_storeName_cell I.ok.kind hk hc z (fun h' hc' hs=> ?_)
  obtain⟨oc,hoc,hocd⟩:=id z
  refine h { s with heap:=h' } ⟨I.ok,I.os,I.bare,⟨fun b o e n hb hx=> ?_,fun b o e n hb hx=> ?_,I.base.free,fun b o e hx=> ?_,I.base.tups,I.base.frzs,I.base.tbls⟩,⟨m,hn.sameBut hs (Ne.symm (cne x c hc)),fun j y v' e1 e2 e3=> ?_⟩,fun y c' e=> ?_,I.free,I.freeC,fun p hp=> ?_,tracked ⟨oc,hoc,I.freeC x c hc⟩ hs,by simpa using I.len⟩ ⟨c,hs, .inr hc⟩
  ·exact(hs.2 b (bh (bg (ah e) (I.ok.cab x c hfn hc)))).trans (I.base.keep b o e n hb hx)
  ·obtain⟨sl,e1⟩:=I.base.slot b o e n hb hx
   exact⟨sl,(hs.2 b (bh (bg (ah e) (I.ok.cab x c hfn hc)))).trans e1⟩
  ·obtain⟨o',e1⟩:=I.base.there b o e hx
   exact⟨o',(hs.2 b (bh (bg (ah e) (I.ok.cab x c hfn hc)))).trans e1⟩
  ·by_cases hj:j=i
   ·subst hj
    rw [hi] at e1;cases e1
    rw [bj hiσ] at e2
    cases e2
    exact⟨u,r, .inr ⟨.inl hk,c,hc,hc'⟩⟩
   ·rw [ba (Ne.symm hj)] at e2
    obtain⟨u',r',q⟩:=hl j y v' e1 e2 e3
    refine⟨u',r', ?_⟩
    rcases q with q | ⟨k,c',e,z'⟩
    ·exact .inl q
    ·refine .inr ⟨k,c',e,z'.sameBut hs ?_⟩
     rintro rfl
     exact hj (pA hN e1 (I.ok.inj _ _ _ e hc▸hi))
  ·by_cases hcc:c'=c
   ·subst hcc;exact⟨_,hc'⟩
   ·obtain⟨w2,z2⟩:=I.cell y c' e
    exact⟨w2,z2.sameBut hs hcc⟩
  ·obtain⟨e,n,ne,nf,d⟩:=I.pin p hp
   refine⟨(hs.2 p.1 ?_).trans e,n,ne,nf,d⟩
   intro q
   rw [q,hoc] at e
   have q':oc=p.2:=Option.some.inj e
   exact d w' (by rw [<-q'];exact hocd)
theorem eQ {M:Model} {A:Around} {E:Value->Shared->Prop} {i:Nat} {x:Str} {v:V} {u:Value} {Q:Unit->Shared->Prop} (I:Inv X pins σ H s) (hN:X.N.Nodup) (hi:X.N[i]? =some x) (hx:Loc X.env.scope x) (r:aP v u)
  (h: ∀ s',Inv X pins (σ.set i (some v)) H s'->Q () s') (hf:X.fn x=true\/X.env.scope.names.lookup x=some .local:=by first | exact .inl rfl | exact .inr rfl | assumption):wpAny M A (storeName X.env x u) Q E s:=
 lN I hN hi hx r (fun s' I' _=>h s' I') hf
theorem Inv.call' {s':Shared} {ch:List Addr} (I:Inv X pins σ H s) (ho:s'.os=s.os) (u:Un (frs X.stack) ch H H' s.heap s'.heap) (hok:HOk X.prog X.w H' s'.heap) (hg:AllBare s'.gens)
  (hch: ∀ b∈ch,(b∈X.ex\/X.s₀.heap.objs.size<=b)/\b≠X.env.locals/\(∀ x c,X.env.cells.lookup x=some c->c≠b)/\ ∀ p∈X.pn++pins,p.1≠b):Inv X pins σ H' s':=by
 obtain⟨h',g',d',t',o'⟩:=s'
 have e:o'=s.os:=ho
 subst e
 exact I.call (g':=g') (t':=t') (d':=d') u hok hg hch
end
abbrev XK:=Value->Option Addr->Hp->Prop
abbrev St:=List (Option V)
abbrev VK:=V->Hp->Prop
abbrev TE:=St->Hp->VK->Prop
abbrev TT:=St->Hp->(Bool->Hp->Prop)->Prop
abbrev TA:=St->Hp->(List V->Hp->Prop)->Prop
structure Ends where
 nx:St->Hp->Prop
 rt:VK
 bk:St->Hp->Prop:=fun _ _=>False
 ct:St->Hp->Prop:=fun _ _=>False
abbrev TS:=Ends->St->Hp->Prop
def EP (X:Cx) (pins:List (Addr×Obj)) (σ:St) (Q:VK) (u:Value) (s':Shared):Prop:= ∃ v H',Inv X pins σ H' s'/\aP v u/\Q v H'
def TP (X:Cx) (pins:List (Addr×Obj)) (σ:St) (Q:Bool->Hp->Prop) (b:Bool) (s':Shared):Prop:= ∃ H',Inv X pins σ H' s'/\Q b H'
def AP (X:Cx) (pins:List (Addr×Obj)) (σ:St) (Q:List V->Hp->Prop) (us:List Value) (s':Shared):Prop:= ∃ vs H',Inv X pins σ H' s'/\aY vs us/\Q vs H'
def SP (X:Cx) (pins:List (Addr×Obj)) (D:Ends) (f:Flow) (s':Shared):Prop:=
 match f with
 | .next=> ∃ σ' H',Inv X pins σ' H' s'/\D.nx σ' H'
 | .brk=> ∃ σ' H',Inv X pins σ' H' s'/\D.bk σ' H'
 | .cont=> ∃ σ' H',Inv X pins σ' H' s'/\D.ct σ' H'
 | .ret u=> ∃ v σ' H',Inv X pins σ' H' s'/\aP v u/\D.rt v H'
def PE (X:Cx) (e:Expr) (t:TE):Prop:=
 ∀ (pins:List (Addr×Obj)) (s:Shared) (σ:St) (H:Hp) (Q:VK),Inv X pins σ H s->t σ H Q->wpAny (model X.prog X.w) X.A (eval e X.env) (EP X pins σ Q) X.xe s
def PT (X:Cx) (e:Expr) (t:TT):Prop:=
 ∀ (pins:List (Addr×Obj)) (s:Shared) (σ:St) (H:Hp) (Q:Bool->Hp->Prop),Inv X pins σ H s->t σ H Q->wpAny (model X.prog X.w) X.A (isTrue e X.env (eval e X.env)) (TP X pins σ Q) X.xe s
def PW (X:Cx) (e:Expr) (t:TT):Prop:=
 ∀ (whole:Sem Value) (pins:List (Addr×Obj)) (s:Shared) (σ:St) (H:Hp) (Q:Bool->Hp->Prop),Inv X pins σ H s->t σ H Q->wpAny (model X.prog X.w) X.A (isTrue e X.env whole) (TP X pins σ Q) X.xe s
def PA (X:Cx) (es:List Expr) (t:TA):Prop:=
 ∀ (pos:Pos) (pins:List (Addr×Obj)) (s:Shared) (σ:St) (H:Hp) (Q:List V->Hp->Prop),Inv X pins σ H s->t σ H Q->wpAny (model X.prog X.w) X.A (spliced (backTo pos (starEach es X.env))) (AP X pins σ Q) X.xe s
def PS (X:Cx) (st:Stmt) (t:TS):Prop:=
 ∀ (pins:List (Addr×Obj)) (s:Shared) (σ:St) (H:Hp) (D:Ends),Inv X pins σ H s->t D σ H->wpAny (model X.prog X.w) X.A (exec st X.env) (SP X pins D) X.xe s
def PSs (X:Cx) (st:List Stmt) (t:TS):Prop:=
 ∀ (pins:List (Addr×Obj)) (s:Shared) (σ:St) (H:Hp) (D:Ends),Inv X pins σ H s->t D σ H->wpAny (model X.prog X.w) X.A (execs st X.env) (SP X pins D) X.xe s
theorem thn {α:Type} {t:Sem α} {Q Q':α->Shared->Prop} {M:Model} {A:Around} {E:Value->Shared->Prop} {s:Shared} (h:wpAny M A t Q E s) (hQ: ∀ a s,Q a s->Q' a s):wpAny M A t Q' E s:=wpAny_mono h hQ fun _ _ x=>x
section
variable {X:Cx}
noncomputable def aGh (i:Nat):TE:=fun σ H Q=> ∃ v,σ[i]? =some (some v)/\Q v H
noncomputable def tC (v:V):TE:=fun _ H Q=>Q v H
theorem aZ {i:Nat} {x:Str} {pos:Pos} (hN:X.N[i]? =some x) (hv:Vis X.env.scope x) (hd:(x==("__debug__":Str))=false:=by decide) (hcd:(x==("__classdict__":Str))=false:=by decide):PE X (.Name x pos) (aGh i):=by
 intro pins s σ H Q I h
 obtain⟨v,e,h⟩:=h
 obtain⟨m,hn,hl⟩:=I.loc
 obtain⟨u,r,l⟩:=hl i x v hN e hv
 have fin:EP X pins σ Q u s:=⟨v,H,I,r,h⟩
 rcases l with ⟨hk,hm⟩ | ⟨hk,c,hc,hcell⟩
 ·exact wpAny_Name (wpAny_loadName_local I.ok.kind hk hn hm fin) hd
 ·rcases hk with hk | hk
  ·exact wpAny_Name (wpAny_loadName_cell I.ok.kind hk hc hcell fin) hd
  ·exact wpAny_Name (wpAny_loadName_free I.ok.kind hk hc hcell fin hcd) hd
theorem aGi {i j pos}:PE X (.Constant (.int i) j pos) (tC (.int i)):=fun _ _ _ H _ I h=>wpAny_Constant_int ⟨.int i,H,I.tok _,⟨_,rfl⟩,h⟩
theorem aK2 {b j pos}:PE X (.Constant (.bool b) j pos) (tC (.bl b)):=fun _ _ _ H _ I h=>Constant_bool ⟨.bl b,H,I,rfl,h⟩
theorem aGj {j pos}:PE X (.Constant .none j pos) (tC .non):=fun _ _ _ H _ I h=>Constant_none ⟨.non,H,I,rfl,h⟩
theorem aGk {x j pos}:PE X (.Constant (.str x) j pos) (tC (.str x)):=fun _ _ _ H _ I h=>Calls.Constant_str ⟨.str x,H,I.tok _,⟨_,rfl⟩,h⟩
def Gl (X:Cx) (x:Str):Prop:=X.env.kindOf x=some .globalImplicit
theorem gH {E:Value->Shared->Prop} {pins:List (Addr×Obj)} {s:Shared} {σ:St} {H:Hp} {x:Str} {u:Value} {pos:Pos} {Q:Value->Shared->Prop} (I:Inv X pins σ H s) (hg:Gl X x) (hm:X.mg x=some u) (h:Q u s)
  (hd:(x==("__debug__":Str))=false:=by decide):wpAny (model X.prog X.w) X.A (eval (.Name x pos) X.env) Q E s:=
 Calls.Name_function_global I.ok.kind hg (Calls.loadGlobal_global (by rw [I.ok.glob];exact I.mod.glob.keeps I.bk) hm h) hd
theorem fR {E:Value->Shared->Prop} {pins:List (Addr×Obj)} {s:Shared} {σ:St} {H:Hp} {x:Str} {u:Value} {pos:Pos} {Q:Value->Shared->Prop} (I:Inv X pins σ H s) (hg:Gl X x) (hm:X.mg x=none) (hv:bootBuiltins x=some u) (h:Q u s)
  (hn:x≠"__name__":=by decide) (hd:(x==("__debug__":Str))=false:=by decide):wpAny (model X.prog X.w) X.A (eval (.Name x pos) X.env) Q E s:=by
 obtain⟨mb,h1,h2⟩:=I.mod.blt
 exact Calls.Name_function_global I.ok.kind hg (Calls.loadGlobal_builtin (by rw [I.ok.glob];exact I.mod.glob.keeps I.bk) hm (by rw [I.ok.blt];exact h1.keeps I.bk) ((h2 x hn).trans hv) h) hd
theorem aB4 {x:Str} {v:V} {u:Value} {pos:Pos} (hg:Gl X x) (hm:X.mg x=some u) (r:aP v u) (hd:(x==("__debug__":Str))=false:=by decide):PE X (.Name x pos) (tC v):=
 fun _ _ _ H _ I h=>gH I hg hm ⟨v,H,I,r,h⟩ hd
variable {a b:Expr} {ta tb:TE} {pos:Pos}
def PC (X:Cx) (op:CmpOp) (a b:Expr) (t:TE):Prop:=
 ∀ (pins:List (Addr×Obj)) (s:Shared) (σ:St) (H:Hp) (Q:VK),Inv X pins σ H s->t σ H Q->
  wpAny (model X.prog X.w) X.A (eval a X.env) (fun v s₁=>wpAny (model X.prog X.w) X.A (eval b X.env) (fun u s₂=>wpAny (model X.prog X.w) X.A (compareOp op v u) (EP X pins σ Q) X.xe s₂) X.xe s₁) X.xe s
noncomputable def tB (t:TE):TT:=fun σ H Q=>t σ H fun x H1=> ∃ c,x= .bl c/\Q c H1
theorem aGl {op:CmpOp} {t:TE} (h:PC X op a b t) (h1:behindInMarks op b=false:=by first | exact nobehind _ (by decide) (by decide) | rfl):PE X (.Compare a [op] [b] pos) t:=fun pins s σ H Q I hw=>wpAny_Compare1 (h pins s σ H Q I hw) h1
theorem aGm {e:Expr} {t:TE} (h:PE X e t) (he: ∀ whole,isTrue e X.env whole=(do let v<-whole;standAt e.pos;holding [v] (truthy v)):=by intro _;rfl):PT X e (tB t):=by
 intro pins s σ H Q I hw
 refine isTrue_plain (thn (h pins s σ H _ I hw) fun v s1 ⟨x,H1,I1,r1,q1⟩=> ?_) (he _)
 obtain⟨d,rfl,q⟩:=q1
 cases r1
 exact wpAny_truthy_bool ⟨H1,I1,q⟩
variable {tA tB':TT} {cI:List Expr}
noncomputable def aNb (t u:TT):TT:=fun σ H Q=>t σ H fun c H1=>if c=true then u σ H1 Q else Q false H1
noncomputable def tOr (t u:TT):TT:=fun σ H Q=>t σ H fun c H1=>if c=true then Q true H1 else u σ H1 Q
noncomputable def aNc (t:TT):TT:=fun σ H Q=>t σ H fun c H1=>Q (!c) H1
theorem pw_and1 (ha:PT X a tA):PW X (.BoolOp .And [a] pos) tA:=by
 intro wh pins s σ H Q I h
 refine isTrue_and (thn (ha pins s σ H Q I h) fun c s1 e=> ?_)
 cases c with
 | true=>exact isTrue_and_nil e
 | false=>exact e
theorem pw_or1 (ha:PT X a tA):PW X (.BoolOp .Or [a] pos) tA:=by
 intro wh pins s σ H Q I h
 refine isTrue_or (thn (ha pins s σ H Q I h) fun c s1 e=> ?_)
 cases c with
 | false=>exact isTrue_or_nil e
 | true=>exact e
theorem pw_and (ha:PT X a tA) (hb:PW X (.BoolOp .And (b::cI) pos) tB'):PW X (.BoolOp .And (a::b::cI) pos) (aNb tA tB'):=by
 intro wh pins s σ H Q I h
 refine isTrue_and (thn (ha pins s σ H _ I h) fun c s1 hz_=> ?_)
 obtain⟨H1,I1,q1⟩:=hz_
 cases c with
 | true=>exact hb wh pins s1 σ H1 Q I1 q1
 | false=>exact⟨H1,I1,q1⟩
theorem pw_or (ha:PT X a tA) (hb:PW X (.BoolOp .Or (b::cI) pos) tB'):PW X (.BoolOp .Or (a::b::cI) pos) (tOr tA tB'):=by
 intro wh pins s σ H Q I h
 refine isTrue_or (thn (ha pins s σ H _ I h) fun c s1 hz_=> ?_)
 obtain⟨H1,I1,q1⟩:=hz_
 cases c with
 | true=>exact⟨H1,I1,q1⟩
 | false=>exact hb wh pins s1 σ H1 Q I1 q1
theorem aGn (ha:PT X a tA):PT X (.UnaryOp .Not a pos) (aNc tA):=by
 intro pins s σ H Q I h
 exact isTrue_not (ha pins s σ H (fun c H1=>Q (!c) H1) I h)
noncomputable def aGo (ta tb:TE):TE:=fun σ H Q=>ta σ H fun x H1=> ∃ c,x= .bl c/\if c=true then tb σ H1 Q else Q (.bl false) H1
noncomputable def aNd (ta tb:TE):TE:=fun σ H Q=>ta σ H fun x H1=> ∃ c,x= .bl c/\if c=true then Q (.bl true) H1 else tb σ H1 Q
noncomputable def aK3 (ta:TE):TE:=fun σ H Q=>ta σ H fun x H1=> ∃ c,x= .bl c/\Q (.bl (!c)) H1
theorem aGp {op} {t:TE} (h:PE X a t):PE X (.BoolOp op [a] pos) t:=fun pins s σ H Q I hw=>BoolOp_one (h pins s σ H Q I hw)
theorem aGq (ha:PE X a ta) (hb:PE X (.BoolOp .And (b::cI) pos) tb):PE X (.BoolOp .And (a::b::cI) pos) (aGo ta tb):=by
 intro pins s σ H Q I h
 refine BoolOp_and (thn (ha pins s σ H _ I h) fun v s1 hz_=> ?_)
 obtain⟨x,H1,I1,r1,q1⟩:=hz_
 obtain⟨c,rfl,q1⟩:=q1
 cases r1
 refine wpAny_truthy_bool ?_
 cases c with
 | true=>exact hb pins s1 σ H1 Q I1 q1
 | false=>exact⟨.bl false,H1,I1,rfl,q1⟩
theorem aK4 (ha:PE X a ta) (hb:PE X (.BoolOp .Or (b::cI) pos) tb):PE X (.BoolOp .Or (a::b::cI) pos) (aNd ta tb):=by
 intro pins s σ H Q I h
 refine BoolOp_or (thn (ha pins s σ H _ I h) fun v s1 hz_=> ?_)
 obtain⟨x,H1,I1,r1,q1⟩:=hz_
 obtain⟨c,rfl,q1⟩:=q1
 cases r1
 refine wpAny_truthy_bool ?_
 cases c with
 | false=>exact hb pins s1 σ H1 Q I1 q1
 | true=>exact⟨.bl true,H1,I1,rfl,q1⟩
theorem aGr (ha:PE X a ta):PE X (.UnaryOp .Not a pos) (aK3 ta):=by
 intro pins s σ H Q I h
 refine UnaryOp_ (thn (ha pins s σ H _ I h) fun v s1 hz_=> ?_)
 obtain⟨x,H1,I1,r1,q1⟩:=hz_
 obtain⟨c,rfl,q1⟩:=q1
 cases r1
 exact not_of (wpAny_truthy_bool ⟨.bl (!c),H1,I1,rfl,q1⟩)
noncomputable def tIf (t:TT) (ta tb:TE):TE:=fun σ H Q=>t σ H fun c H1=>if c=true then ta σ H1 Q else tb σ H1 Q
theorem xK {c:Expr} (hc:PT X c tA) (ha:PE X a ta) (hb:PE X b tb):PE X (.IfExp c a b pos) (tIf tA ta tb):=by
 intro pins s σ H Q I h
 refine wpAny_IfExp (thn (hc pins s σ H _ I h) fun d s1 hz_=> ?_)
 obtain⟨H1,I1,q1⟩:=hz_
 cases d with
 | true=>exact ha pins s1 σ H1 Q I1 q1
 | false=>exact hb pins s1 σ H1 Q I1 q1
end
def SqL (K:PySem.W.Frag) (H:Hp) (a:Addr) (xs:List V):Prop:=
 Rd H a (.lst xs)\/
  ∃ (o:Obj) (its:Array Value) (n:Nat),K.lookup a=some o/\o.cls= .type "list"/\o.dict=none/\o.data= .seq its n/\its.size<=sizeLine/\aY xs its.toList
def SqT (K:PySem.W.Frag) (H:Hp) (a:Addr) (xs:List V):Prop:=
 Rd H a (.tup xs)\/
  ∃ (o:Obj) (its:Array Value) (n:Nat),K.lookup a=some o/\o.cls= .type "tuple"/\o.dict=none/\o.data= .seq its n/\its.size<=sizeLine/\aY xs its.toList
noncomputable def aN7:Value->Option V
 | .none=>some .non
 | .bool b=>some (.bl b)
 | .int i _=>some (.int i)
 | .str x _=>some (.str x)
 | .bytes b _=>some (.byt b)
 | .float b _=>some (.flt b)
 | .ref a=>some (.ref a)
 | .type n=>some (.ty n)
 | _=>none
theorem aP.abs {x:V} {u:Value} (r:aP x u):aN7 u=some x:=by
 cases x with
 | non=>cases r;rfl
 | bl _=>cases r;rfl
 | int _=>obtain⟨t,rfl⟩:=r;rfl
 | str _=>obtain⟨t,rfl⟩:=r;rfl
 | byt _=>obtain⟨t,rfl⟩:=r;rfl
 | flt _=>obtain⟨t,rfl⟩:=r;rfl
 | ref _=>cases r;rfl
 | ty _=>cases r;rfl
theorem aP.inj {x y:V} {u:Value} (r:aP x u) (q:aP y u):x=y:=Option.some.inj (r.abs.symm.trans q.abs)
theorem aY.inj: ∀ {xs ys:List V} {us:List Value},aY xs us->aY ys us->xs=ys
 | _,_,_, .nil, .nil=>rfl
 | _,_,_, .cons r t, .cons r' t'=>by rw [r.inj r',aY.inj t t']
section
variable {X:Cx} {pins:List (Addr×Obj)} {σ:St} {H:Hp} {s:Shared} {a:Addr} {xs ys:List V}
theorem SqL.of {K:PySem.W.Frag} (h:H a=some (.lst xs)):SqL K H a xs:= .inl (.inl h)
theorem SqT.of {K:PySem.W.Frag} (h:H a=some (.tup xs)):SqT K H a xs:= .inl (.inl h)
theorem Inv.list (I:Inv X pins σ H s) (h:SqL X.K H a xs): ∃ its:List Value,aY xs its/\PlainL s.heap a its.toArray/\xs.length<=sizeLine:=by
 rcases h with h | ⟨o,its,n,hk,hc,hd,hs,hz,r⟩
 ·obtain⟨z,its,n,r,e⟩:=h.ok I.hok
  exact⟨its,r,⟨_,n,e,rfl,rfl,rfl⟩,z⟩
 ·refine⟨its.toList,r,⟨o,n,I.kIn a o hk,hc,hd,by simpa using hs⟩, ?_⟩
  have e:=r.length
  simp only [Array.length_toList] at e
  omega
theorem Inv.tuple (I:Inv X pins σ H s) (h:SqT X.K H a xs): ∃ its:List Value,aY xs its/\IsTup s.heap a its.toArray/\xs.length<=sizeLine:=by
 rcases h with h | ⟨o,its,n,hk,hc,_,hs,hz,r⟩
 ·obtain⟨z,its,r,p,_⟩:=h.ok I.hok
  exact⟨its,r,p,z⟩
 ·refine⟨its.toList,r,⟨o,I.kIn a o hk,hc,n,by simpa using hs⟩, ?_⟩
  have e:=r.length
  simp only [Array.length_toList] at e
  omega
theorem Inv.list_inj (I:Inv X pins σ H s) (h:SqL X.K H a xs) (h':SqL X.K H a ys):xs=ys:=by
 obtain⟨its,r,⟨o,n,e,_,_,d⟩,_⟩:=I.list h
 obtain⟨its',r',⟨o',n',e',_,_,d'⟩,_⟩:=I.list h'
 rw [e] at e';cases e'
 rw [d] at d'
 injection d' with d1 _
 have:its=its':=by simpa using congrArg Array.toList d1
 subst this
 exact r.inj r'
theorem Inv.tuple_inj (I:Inv X pins σ H s) (h:SqT X.K H a xs) (h':SqT X.K H a ys):xs=ys:=by
 obtain⟨its,r,⟨o,e,_,n,d⟩,_⟩:=I.tuple h
 obtain⟨its',r',⟨o',e',_,n',d'⟩,_⟩:=I.tuple h'
 rw [e] at e';cases e'
 rw [d] at d'
 injection d' with d1 _
 have:its=its':=by simpa using congrArg Array.toList d1
 subst this
 exact r.inj r'
end
noncomputable abbrev Cx.wish (X:Cx) (E:Value->Shared->Prop):Cx:={ X with xe:=E }
section
variable {X:Cx} {pins:List (Addr×Obj)} {σ:St} {H:Hp} {s:Shared} {E:Value->Shared->Prop}
end
section
variable {X:Cx} {st:Stmt} {cI:List Stmt} {t u:TS} {e:Expr} {te:TE} {pos:Pos}
noncomputable def aGs:TS:=fun D σ H=>D.nx σ H
noncomputable def aNe (t u:TS):TS:=fun D σ H=>t { D with nx:=u D } σ H
theorem sO:PSs X [] aGs:=fun _ _ σ H _ I h=>wpAny_execs_nil ⟨σ,H,I,h⟩
theorem dN (h1:PS X st t) (h2:PSs X cI u):PSs X (st::cI) (aNe t u):=by
 intro pins s σ H D I h
 refine wpAny_execs_cons (thn (h1 pins s σ H { D with nx:=u D } I h) fun f s1 q=> ?_)
 cases f with
 | next=>
  obtain⟨σ',H',I',q⟩:=q
  exact h2 pins s1 σ' H' D I' q
 | ret v=>exact q
 | brk=>exact q
 | cont=>exact q
theorem nO (h1:PS X st t):PSs X [st] t:=by
 intro pins s σ H D I h
 refine wpAny_execs_cons (thn (h1 pins s σ H D I h) fun f s1 q=> ?_)
 cases f with
 | next=>exact wpAny_execs_nil q
 | ret v=>exact q
 | brk=>exact q
 | cont=>exact q
noncomputable def aGt:TS:=fun D σ H=>D.bk σ H
noncomputable def aK5:TS:=fun D σ H=>D.ct σ H
theorem sP:PS X (.Pass pos) aGs:=fun _ _ σ H _ I h=>wpAny_Pass ⟨σ,H,I,h⟩
theorem xL:PS X (.Break pos) aGt:=fun _ _ σ H _ I h=>wpAny_Break ⟨σ,H,I,h⟩
theorem nQ:PS X (.Continue pos) aK5:=fun _ _ σ H _ I h=>wpAny_Continue ⟨σ,H,I,h⟩
theorem Inv.quiet {pins:List (Addr×Obj)} {σ:St} {H:Hp} {s:Shared} (I:Inv X pins σ H s):interactive X.env=false:=by simp [interactive,I.ok.kind]
noncomputable def aB5 (te:TE):TS:=fun D σ H=>te σ H fun _ H1=>D.nx σ H1
theorem fH (he:PE X e te) (hs:swapsWith e none pos.line X.env=pure false:=by rfl):PS X (.Expr e pos) (aB5 te):=by
 intro pins s σ H D I h
 exact wpAny_Expr_any (thn (he pins s σ H _ I h) fun v s1 ⟨x,H1,I1,r1,q1⟩=>⟨σ,H1,I1,q1⟩) I.quiet hs
noncomputable def aN8 (te:TE):TS:=fun D σ H=>te σ H D.rt
theorem pB (he:PE X e te):PS X (.Return (some e) pos) (aN8 te):=by
 intro pins s σ H D I h
 exact wpAny_Return_some (thn (he pins s σ H _ I h) fun v s1 ⟨x,H1,I1,r1,q1⟩=>⟨x,σ,H1,I1,r1,q1⟩)
noncomputable def aK6:TS:=fun D _ H=>D.rt .non H
theorem aB6:PS X (.Return none pos) aK6:=fun _ _ σ H _ I h=>wpAny_Return_none ⟨.non,σ,H,I,rfl,h⟩
noncomputable def aN9 (c:TT) (t u:TS):TS:=fun D σ H=>c σ H fun b H1=>if b=true then t D σ H1 else u D σ H1
theorem aGu {c:Expr} {a b:List Stmt} {tc:TT} (hc:PT X c tc) (ha:PSs X a t) (hb:PSs X b u):PS X (.If c a b pos) (aN9 tc t u):=by
 intro pins s σ H D I h
 refine wpAny_If (thn (hc pins s σ H _ I h) fun d s1 hz_=> ?_)
 obtain⟨H1,I1,q1⟩:=hz_
 cases d with
 | true=>exact ha pins s1 σ H1 D I1 q1
 | false=>exact hb pins s1 σ H1 D I1 q1
end
abbrev TG:=V->St->Hp->(St->Hp->Prop)->Prop
abbrev TGs:=List V->St->Hp->(St->Hp->Prop)->Prop
def PG (X:Cx) (target:Expr) (t:TG):Prop:=
 ∀ (pins:List (Addr×Obj)) (s:Shared) (σ:St) (H:Hp) (v:V) (u:Value) (Q:St->Hp->Prop),Inv X pins σ H s->aP v u->t v σ H Q->
  wpAny (model X.prog X.w) X.A (assign target X.env u) (fun _ s'=> ∃ σ' H',Inv X pins σ' H' s'/\Q σ' H') X.xe s
def PGs (X:Cx) (ts:List Expr) (t:TGs):Prop:=
 ∀ (pins:List (Addr×Obj)) (s:Shared) (σ:St) (H:Hp) (vs:List V) (us:List Value) (Q:St->Hp->Prop),Inv X pins σ H s->aY vs us->t vs σ H Q->
  wpAny (model X.prog X.w) X.A (assignInOrder ((assignEach ts X.env).map (·.2)) us) (fun _ s'=> ∃ σ' H',Inv X pins σ' H' s'/\Q σ' H') X.xe s
abbrev aGv:=V->V->V->Hp->(Hp->Prop)->Prop
def aGw (X:Cx) (t:aGv):Prop:=
 ∀ (pins:List (Addr×Obj)) (s:Shared) (σ:St) (H:Hp) (o i v:V) (ov iv u:Value) (Q:Hp->Prop),Inv X pins σ H s->aP o ov->aP i iv->aP v u->t o i v H Q->
  wpAny (model X.prog X.w) X.A (setItem ov iv u) (fun _ s'=> ∃ H',Inv X pins σ H' s'/\Q H') X.xe s
abbrev TIp:=V->V->Hp->VK->Prop
def PIp (X:Cx) (op:Operator) (t:TIp):Prop:=
 ∀ (pins:List (Addr×Obj)) (s:Shared) (σ:St) (H:Hp) (x y:V) (v u:Value) (Q:VK),Inv X pins σ H s->aP x v->aP y u->t x y H Q->
  wpAny (model X.prog X.w) X.A (inplaceOp op v u) (EP X pins σ Q) X.xe s
section
variable {X:Cx} {pos:Pos}
noncomputable def iE (i:Nat):TG:=fun v σ H Q=>Q (σ.set i (some v)) H
theorem iF {i:Nat} {x:Str} (hN:X.N.Nodup) (hi:X.N[i]? =some x) (hx:Loc X.env.scope x) (hf:X.fn x=true\/X.env.scope.names.lookup x=some .local:=by first | exact .inl rfl | exact .inr rfl | assumption):PG X (.Name x pos) (iE i):=by
 intro pins s σ H v u Q I r h
 exact wpAny_assign_Name (eQ I hN hi hx r (fun s' I'=>⟨_,H,I',h⟩) hf)
noncomputable def aK7:TGs:=fun vs σ H Q=>vs=[]/\Q σ H
noncomputable def aB7 (t:TG) (u:TGs):TGs:=fun vs σ H Q=> ∃ v r,vs=v::r/\t v σ H fun σ' H'=>u r σ' H' Q
theorem sQ:PGs X [] aK7:=by
 intro pins s σ H vs us Q I r h
 obtain⟨e,h⟩:=h
 subst e
 cases r
 exact assignInOrder_nil ⟨σ,H,I,h⟩
theorem pC {e:Expr} {es:List Expr} {t:TG} {u:TGs} (h1:PG X e t) (h2:PGs X es u)
  (hs:(assignEach (e::es) X.env).map (·.2)=assign e X.env::(assignEach es X.env).map (·.2):=by rfl):PGs X (e::es) (aB7 t u):=by
 intro pins s σ H vs us Q I r h
 obtain⟨v,vr,e1,h⟩:=h
 subst e1
 cases r with
 | cons r rr=>
  rw [hs]
  refine assignInOrder_cons (thn (h1 pins s σ H _ _ _ I r h) fun _ s1 hz_=> ?_)
  obtain⟨σ1,H1,I1,q1⟩:=hz_
  exact h2 pins s1 σ1 H1 _ _ Q I1 rr q1
noncomputable def aGx (K:PySem.W.Frag) (n:Nat) (t:TGs):TG:=fun v σ H Q=> ∃ a xs,v= .ref a/\SqT K H a xs/\xs.length=n/\t xs σ H Q
theorem aAq {es:List Expr} {k:Nat} {t:TGs} {n:Nat} (hc:X.calm=true) (h:PGs X es t)
  (hn:(assignEach es X.env).length=n:=by rfl) (hst:(assignEach es X.env).findIdx? (·.1)=none:=by rfl):PG X (.Tuple es k pos) (aGx X.K n t):=by
 intro pins s σ H v u Q I r hw
 obtain⟨a,xs,e1,hq,hl,hw⟩:=hw
 subst e1
 cases r
 obtain⟨its,rv,ht,hz⟩:=I.tuple hq
 refine assign_Tuple_tuple (I.ok.hd hc) ht (by simp [hn, <-hl,rv.length]) hst fun h' hx=> ?_
 have I1:Inv X pins σ H { s with heap:=h' }:=I.kept (t':=s.toks) fun b o e=>hx b o (bh (ah e)) e
 exact h pins _ σ H xs _ Q I1 (by simpa using rv) hw
noncomputable def aOa (to ti:TE) (t:aGv):TG:=fun v σ H Q=>to σ H fun o H1=>ti σ H1 fun i H2=>t o i v H2 fun H3=>Q σ H3
theorem aGy {o i:Expr} {to ti:TE} {t:aGv} (ho:PE X o to) (hi:PE X i ti) (hs:aGw X t)
  (ha: ∀ v,assign (.Subscript o i pos) X.env v=(do
   let ov<-holding [v] (eval o X.env)
   let iv<-holding [v,ov] (eval i X.env)
   standAt pos
   holding [v,ov,iv] (setItem ov iv v)
   release [v,ov,iv] []):=by intro _;rfl):PG X (.Subscript o i pos) (aOa to ti t):=by
 intro pins s σ H v u Q I r h
 rw [ha]
 refine aa (wpAny_holding (thn (ho pins s σ H _ I h) fun ov s1 hz_=> ?_))
 obtain⟨x,H1,I1,r1,q1⟩:=hz_
 refine aa (wpAny_holding (thn (hi pins s1 σ H1 _ I1 q1) fun iv s2 hz_=> ?_))
 obtain⟨y,H2,I2,r2,q2⟩:=hz_
 refine aa (wpAny_standAt (aa (wpAny_holding (thn (hs pins s2 σ H2 x y v ov iv u _ I2 r1 r2 r q2) fun _ s3 hz_=> ?_))))
 obtain⟨H3,I3,q3⟩:=hz_
 exact wpAny_release ⟨σ,H3,I3,q3⟩
noncomputable def aB8 (te:TE) (g:TG):TS:=fun D σ H=>te σ H fun x H1=>g x σ H1 D.nx
theorem sR {tg e:Expr} {te:TE} {g:TG} (he:PE X e te) (hg:PG X tg g) (hs:swapsWithSole [tg] e pos.line X.env=pure false:=by rfl) (hw:swappedStores [tg] e X.env=pure none:=by rfl)
  (h1:(assignEach [tg] X.env).map (·.2)=[assign tg X.env]:=by rfl):PS X (.Assign [tg] e pos) (aB8 te g):=by
 intro pins s σ H D I h
 refine wpAny_Assign_stores (thn (he pins s σ H _ I h) fun v s1 ⟨x,H1,I1,r1,q1⟩=> ?_) hs hw
 rw [h1]
 exact thn (hg pins s1 σ H1 x v _ I1 r1 q1) fun _ s2 q=>q
theorem jN {i:Nat} {x:Str} {e:Expr} {te:TE} {pos':Pos} (hN:X.N.Nodup) (hi:X.N[i]? =some x) (hx:Loc X.env.scope x) (he:PE X e te) (hs:swapsWith e (some (.Name x pos')) pos.line X.env=pure false:=by rfl) (hf:X.fn x=true\/X.env.scope.names.lookup x=some .local:=by first | exact .inl rfl | exact .inr rfl | assumption):
  PS X (.Assign [.Name x pos'] e pos) (aB8 te (iE i)):=by
 intro pins s σ H D I h
 refine wpAny_Assign_Name (thn (he pins s σ H _ I h) fun v s1 ⟨y,H1,I1,r1,q1⟩=> ?_) hs
 exact eQ I1 hN hi hx r1 (fun s2 I2=>⟨_,H1,I2,q1⟩) hf
noncomputable def aOb (i j:Nat) (ta:TA):TS:=fun D σ H=>ta σ H fun vs H1=> ∃ v w,vs=[v,w]/\D.nx ((σ.set i (some v)).set j (some w)) H1
theorem aGz {i j:Nat} {x y:Str} {a b:Expr} {ta:TA} {px py pt:Pos} {kt k2 pt2} (hc:X.calm=true) (hN:X.N.Nodup) (hi:X.N[i]? =some x) (hj:X.N[j]? =some y) (hij:i≠j)
  (hx:X.env.scope.names.lookup x=some .local) (hy:X.env.scope.names.lookup y=some .local) (ha:PA X [a,b] ta)
  (hw:swappedStores [.Tuple [.Name x px, .Name y py] kt pt] (.Tuple [a,b] k2 pt2) X.env=pure (some [x,y]))
  (hs:swapsWithSole [.Tuple [.Name x px, .Name y py] kt pt] (.Tuple [a,b] k2 pt2) pos.line X.env=pure false:=by rfl):
  PS X (.Assign [.Tuple [.Name x px, .Name y py] kt pt] (.Tuple [a,b] k2 pt2) pos) (aOb i j ta):=by
 intro pins s σ H D I h
 rw [exec_Assign_arm]
 refine aa (wpAny_standAt ?_)
 rw [hs]
 refine aa (ae ?_)
 rw [if_neg (by decide)]
 refine aa (Tuple_ (thn (ha _ pins s σ H _ I h) fun us s1 hz_=> ?_))
 obtain⟨vs,H1,I1,r1,q1⟩:=hz_
 obtain⟨v,w,e1,q1⟩:=q1
 subst e1
 obtain⟨u1,u2,rfl,rv,rw'⟩: ∃ u1 u2,us=[u1,u2]/\aP v u1/\aP w u2:=by
  cases r1 with
  | cons p q=>
   cases q with
   | cons p' q'=>
    cases q'
    exact⟨_,_,rfl,p,p'⟩
 refine wpAny_newObj_type ?_ (by show 2<=sizeLine;decide)
 have I2:Inv X pins σ H1 { s1 with heap:=s1.heap.push { cls:= .type "tuple",data:= .seq [u1,u2].toArray } }:=I1.kept (t':=s1.toks) fun b o e=>af _ e
 rw [hw]
 refine aa (ae ?_)
 show wpAny (model X.prog X.w) X.A (do rule "assign.swapped-stores";let items<-unpackItems (.ref s1.heap.objs.size) 2 none;assignInOrder [fun v=>bindName X.env y v,fun v=>bindName X.env x v] items.reverse;pure Flow.next) _ _ _
 refine aa (wpAny_rule (aa (unpackItems_tuple (items:= #[u1,u2]) (I.ok.hd hc) (IsTup.new s1.heap _) fun h' hx'=> ?_)))
 have I3:=I2.kept (h':=h') (t':=s1.toks) fun b o e=>hx' b o (bh (ah e)) e
 show wpAny _ _ (assignInOrder [fun v=>bindName X.env y v,fun v=>bindName X.env x v] [u2,u1] >>= fun _=>pure Flow.next) _ _ _
 refine aa (assignInOrder_cons (wpAny_bindName (eQ I3 hN hj (.inl hy) rw' (fun s2 I4=> ?_) (.inr hy))))
 refine assignInOrder_cons (wpAny_bindName (eQ I4 hN hi (.inl hx) rv (fun s3 I5=>assignInOrder_nil (ae ?_)) (.inr hx)))
 rw [List.set_comm _ _ (Ne.symm hij)] at I5
 exact⟨_,H1,I5,q1⟩
noncomputable def aOc (i:Nat) (te:TE) (ti:TIp):TS:=fun D σ H=> ∃ x,σ[i]? =some (some x)/\te σ H fun y H1=>ti x y H1 fun z H2=>D.nx (σ.set i (some z)) H2
theorem aAr {i:Nat} {x:Str} {e:Expr} {te:TE} {op:Operator} {ti:TIp} {pos':Pos} (hN:X.N.Nodup) (hi:X.N[i]? =some x) (hx:Loc X.env.scope x) (he:PE X e te) (ho:PIp X op ti) (hf:X.fn x=true\/X.env.scope.names.lookup x=some .local:=by first | exact .inl rfl | exact .inr rfl | assumption):
  PS X (.AugAssign (.Name x pos') op e pos) (aOc i te ti):=by
 intro pins s σ H D I h
 obtain⟨v,e1,h⟩:=h
 obtain⟨m,hn,hl⟩:=I.loc
 have vis:Vis X.env.scope x:=by rcases hx with k | k;exact .inl k;exact .inr (.inl k)
 obtain⟨u,r,l⟩:=hl i x v hi e1 vis
 refine wpAny_AugAssign_Name ?_
 have go:wpAny (model X.prog X.w) X.A (eval e X.env) (fun w s₂=>wpAny (model X.prog X.w) X.A (inplaceOp op u w) (fun r s₃=>wpAny (model X.prog X.w) X.A (storeName X.env x r) (fun _=>SP X pins D .next) X.xe s₃) X.xe s₂) X.xe s:=by
  refine thn (he pins s σ H _ I h) fun w s1 hz_=> ?_
  obtain⟨y,H1,I1,r1,q1⟩:=hz_
  refine thn (ho pins s1 σ H1 v y u w _ I1 r r1 q1) fun z s2 hz_=> ?_
  obtain⟨zv,H2,I2,r2,q2⟩:=hz_
  exact eQ I2 hN hi hx r2 (fun s3 I3=>⟨_,H2,I3,q2⟩) hf
 rcases l with ⟨hk,hm⟩ | ⟨hk,c,hc,hcell⟩
 ·exact wpAny_loadName_local I.ok.kind hk hn hm go
 ·rcases hk with hk | hk
  ·exact wpAny_loadName_cell I.ok.kind hk hc hcell go
  ·rcases hx with k | k
   ·have:X.env.scope.names.lookup x=some .free:=hk
    rw [k] at this;cases this
   ·have:X.env.scope.names.lookup x=some .free:=hk
    rw [k] at this;cases this
noncomputable def aK8 (to ti te:TE) (tget:V->V->Hp->VK->Prop) (tip:TIp) (tset:aGv):TS:=fun D σ H=>to σ H fun o H1=>ti σ H1 fun i H2=>tget o i H2 fun x H3=>te σ H3 fun y H4=>tip x y H4 fun z H5=>tset o i z H5 fun H6=>D.nx σ H6
def aNf (X:Cx) (t:V->V->Hp->VK->Prop):Prop:=
 ∀ (pins:List (Addr×Obj)) (s:Shared) (σ:St) (H:Hp) (o i:V) (ov iv:Value) (Q:VK),Inv X pins σ H s->aP o ov->aP i iv->t o i H Q->
  wpAny (model X.prog X.w) X.A (getItem ov iv) (EP X pins σ Q) X.xe s
theorem aB9 {o i e:Expr} {to ti te:TE} {tget:V->V->Hp->VK->Prop} {tip:TIp} {tset:aGv} {op:Operator} {tpos:Pos} (ho:PE X o to) (hi:PE X i ti) (hg:aNf X tget) (he:PE X e te) (hp:PIp X op tip) (hs:aGw X tset)
  (ha: ∀ ov iv new,augStore i ov iv new=(do holding [new,ov,iv] (setItem ov iv new);release [new,ov,iv] [];pure .next):=by intros;rfl):PS X (.AugAssign (.Subscript o i tpos) op e pos) (aK8 to ti te tget tip tset):=by
 intro pins s σ H D I h
 refine wpAny_AugAssign_SubscriptAny (thn (ho pins s σ H _ I h) fun ov s1 ⟨x1,H1,I1,r1,q1⟩=> ?_) ha
 refine thn (hi pins s1 σ H1 _ I1 q1) fun iv s2 hz_=> ?_
 obtain⟨x2,H2,I2,r2,q2⟩:=hz_
 refine thn (hg pins s2 σ H2 x1 x2 ov iv _ I2 r1 r2 q2) fun old s3 hz_=> ?_
 obtain⟨x3,H3,I3,r3,q3⟩:=hz_
 refine thn (he pins s3 σ H3 _ I3 q3) fun v s4 hz_=> ?_
 obtain⟨x4,H4,I4,r4,q4⟩:=hz_
 refine thn (hp pins s4 σ H4 x3 x4 old v _ I4 r3 r4 q4) fun new s5 hz_=> ?_
 obtain⟨x5,H5,I5,r5,q5⟩:=hz_
 exact thn (hs pins s5 σ H5 x1 x2 x5 ov iv new _ I5 r1 r2 r5 q5) fun _ s6 ⟨H6,I6,q6⟩=>⟨σ,H6,I6,q6⟩
noncomputable def ipI (f:Int->Int->Int):TIp:=fun x y H Q=> ∃ i j,x= .int i/\y= .int j/\Q (.int (f i j)) H
theorem aAs:PIp X .Add (ipI fun i j=>i+j):=by
 intro pins s σ H x y v u Q I r1 r2 h
 obtain⟨i,j,e1,e2,q⟩:=h
 subst e1;subst e2
 obtain⟨t,rfl⟩:=r1
 obtain⟨t',rfl⟩:=r2
 exact iadd_int ⟨.int _,H,I.tok _,⟨_,rfl⟩,q⟩
theorem aG0:PIp X .Sub (ipI fun i j=>i - j):=by
 intro pins s σ H x y v u Q I r1 r2 h
 obtain⟨i,j,e1,e2,q⟩:=h
 subst e1;subst e2
 obtain⟨t,rfl⟩:=r1
 obtain⟨t',rfl⟩:=r2
 exact isub_int ⟨.int _,H,I.tok _,⟨_,rfl⟩,q⟩
end
section
variable {X:Cx} {pos:Pos}
end
structure It where
 go:Nat->Hp->Prop
 yld:Nat->Hp->V->Hp->Prop
 stop:Nat->Hp->Prop
def nR (X:Cx) (pins:List (Addr×Obj)) (H:Hp) (b:Addr):Prop:=
 H b=none/\b≠X.env.locals/\b∉X.fs/\(b∈X.ex\/X.s₀.heap.objs.size<=b)/\(∀ x c,X.env.cells.lookup x=some c->c≠b)/\ ∀ p∈X.pn++pins,p.1≠b
theorem Inv.fpOk {X:Cx} {pins:List (Addr×Obj)} {σ:St} {H H':Hp} {s:Shared} {b:Addr} (I:Inv X pins σ H s) (hb:s.heap.objs.size<=b) (hn:H' b=none):nR X pins H' b:=by
 refine⟨hn,Nat.ne_of_gt (bg I.lt hb),I.nofs hb, .inr (Nat.le_trans I.sz hb),fun x c e z=> ?_,fun p hp z=> ?_⟩
 ·obtain⟨v,q⟩:=I.cell x c e
  exact absurd (bg q.lt (by rw [z];exact hb)) (Nat.lt_irrefl _)
 ·exact absurd (bg (ah (I.pin p hp).1) (by rw [z];exact hb)) (Nat.lt_irrefl _)
structure Turn (P:Program) (w:World) (K:PySem.W.Frag) (tg:Expr) (J:It) (fp:List Addr) (it:Addr) (tn:Nat->Heap->Prop):Prop where
 mem:it∈fp
 obj: ∀ i h,tn i h-> ∀ b∈fp, ∃ o,h.get? b=some o/\ ∀ v,o.data≠ .cell v
 keep: ∀ i h h',tn i h->(∀ b∈fp, ∀ o,h.get? b=some o->h'.get? b=some o)->tn i h'
 item: ∀ (X:Cx),X.prog=P->X.w=w->X.K=K->X.calm=true-> ∀ (i:Nat) (pins:List (Addr×Obj)) (s:Shared) (σ:St) (H:Hp) (E:Value->Shared->Prop),Inv X pins σ H s->(∀ b∈fp,nR X pins H b)->tn i s.heap->J.go i H->
  wpAny (model P w) X.A (pyNext (.ref it)) (fun r s1=> ∃ u,r=some u/\
   wpAny (model P w) X.A (letOwnedTupleGo tg (.ref it) u) (fun _ s2=> ∃ x H',Inv X pins σ H' s2/\aP x u/\J.yld i H x H'/\tn (i+1) s2.heap/\ ∀ b∈fp,H' b=none) E s1) E s
 done: ∀ (X:Cx),X.prog=P->X.w=w->X.K=K->X.calm=true-> ∀ (i:Nat) (pins:List (Addr×Obj)) (s:Shared) (σ:St) (H:Hp) (E:Value->Shared->Prop),Inv X pins σ H s->(∀ b∈fp,nR X pins H b)->tn i s.heap->J.stop i H->
  wpAny (model P w) X.A (pyNext (.ref it)) (fun r s1=>r=none/\Inv X pins σ H s1) E s
 self: ∀ (A:Around) (i:Nat) (s:Shared) (Q:Value->Shared->Prop) (E:Value->Shared->Prop),tn i s.heap->Q (.ref it) s->wpAny (model P w) A (pyIter (.ref it)) Q E s
abbrev TI:=St->Hp->(It->Hp->Prop)->Prop
def PIE (X:Cx) (pins:List (Addr×Obj)) (σ:St) (tg:Expr) (R:It->Hp->Prop) (itv:Value) (s2:Shared):Prop:=
 ∃ (it:Addr) (fp:List Addr) (tn:Nat->Heap->Prop) (J:It) (H':Hp),itv= .ref it/\Inv X pins σ H' s2/\Turn X.prog X.w X.K tg J fp it tn/\tn 0 s2.heap/\(∀ b∈fp,nR X pins H' b)/\R J H'
def PI (X:Cx) (tg iter:Expr) (wi:TI):Prop:=
 ∀ (pins:List (Addr×Obj)) (s:Shared) (σ:St) (H:Hp) (R:It->Hp->Prop),Inv X pins σ H s->wi σ H R->
  wpAny (model X.prog X.w) X.A (eval iter X.env) (fun v s1=>wpAny (model X.prog X.w) X.A (pyIter v) (PIE X pins σ tg R) X.xe s1) X.xe s
theorem sS {M:Model} {A:Around} {E:Value->Shared->Prop} {s:Shared} {tg:Expr} {it:Addr} {u:Value} {o:Obj} {n:String} {vs:Array Value} {Q:Unit->Shared->Prop} (ho:s.heap.get? it=some o) (hc:o.cls= .type n) (hd:o.data= .fields vs)
  (hn:["enumerate","zip","dict_itemiterator","dict_reverseitemiterator","odict_iterator","itertools.zip_longest","itertools.pairwise"].contains n=false) (hQ:Q () s):wpAny M A (letOwnedTupleGo tg (.ref it) u) Q E s:=by
 unfold letOwnedTupleGo
 cases tg<;>first
  | exact ae hQ
  | (cases u<;>first
    | exact ae hQ
    | (refine aa (wpAny_load ho ?_)
       rw [hc,hd]
       show wpAny M A (if(["enumerate","zip","dict_itemiterator","dict_reverseitemiterator","odict_iterator","itertools.zip_longest","itertools.pairwise"].contains n&&vs[0]? ==some (rawInt _))=true then _ else _) Q E s
       rw [if_neg (by intro h;rw [hn,Bool.false_and] at h;cases h)]
       exact ae hQ))
noncomputable def Itl (K:PySem.W.Frag) (a:Addr):It:=
 ⟨fun i H=> ∃ xs x,SqL K H a xs/\xs[i]? =some x,fun i H x H'=>H'=H/\ ∀ xs,SqL K H a xs->xs[i]? =some x,fun i H=> ∃ xs,SqL K H a xs/\xs.length<=i⟩
noncomputable def Itt (K:PySem.W.Frag) (a:Addr):It:=
 ⟨fun i H=> ∃ xs x,SqT K H a xs/\xs[i]? =some x,fun i H x H'=>H'=H/\ ∀ xs,SqT K H a xs->xs[i]? =some x,fun i H=> ∃ xs,SqT K H a xs/\xs.length<=i⟩
noncomputable def Itr (lo:Int) (n:Nat):It:=⟨fun i _=>i<n,fun i H x H'=>H'=H/\x= .int (lo+i),fun i _=>n<=i⟩
theorem lO {P:Program} {w:World} {K:PySem.W.Frag} {tg:Expr} (a it:Addr):Turn P w K tg (Itl K a) [it] it (fun i h=>h.IsListIter it a i) where
 mem:=by simp
 obj:=fun i h st b hb=>by
  have e:b=it:=by simpa using hb
  subst e
  obtain⟨o,e,c,d⟩:=st
  exact⟨o,e,fun v z=>by rw [d] at z;cases z⟩
 keep:=fun i h h' st k=>st.at fun o e=>k it (by simp) o e
 item:=by
  intro X hP hw hK hc i pins s σ H E I hf st hg
  subst hP hw hK
  obtain⟨xs,x,hq,hx⟩:=hg
  obtain⟨its,rv,p,hz⟩:=I.list hq
  obtain⟨u,hu,ru⟩:=rv.get hx
  obtain⟨f0,f1,f2,f3,f4,f5⟩:=hf it (by simp)
  refine wpAny_pyNext_list_item st p.isList (x:=u) (by simpa using hu) fun h' st' sb=> ?_
  have I1:Inv X pins σ H { s with heap:=h' }:=I.turned (t':=s.toks) (fun b o hb e=>(sb.2 b hb).trans e) f0 f1 f3 f4 f5
  obtain⟨o,e,c,d⟩:=id st'
  exact⟨u,rfl,sS (s:={ s with heap:=h' }) e c d (by decide) ⟨x,H,I1,ru,⟨rfl,fun ys hy=>by rw [I.list_inj hy hq];exact hx⟩,st',fun b hb=>(hf b hb).1⟩⟩
 done:=by
  intro X hP hw hK hc i pins s σ H E I hf st hg
  subst hP hw hK
  obtain⟨xs,hq,hx⟩:=hg
  obtain⟨its,rv,p,hz⟩:=I.list hq
  obtain⟨f0,f1,f2,f3,f4,f5⟩:=hf it (by simp)
  have hl:=rv.length
  exact wpAny_pyNext_list_end (I.ok.hd hc) st p.isList (by simp;omega) fun h' eb=>⟨rfl,I.turned (t':=s.toks) (fun b o hb e=>eb b o hb e) f0 f1 f3 f4 f5⟩
 self:=fun _ _ _ _ _ st h=>wpAny_pyIter_listiter st h
theorem jO {P:Program} {w:World} {K:PySem.W.Frag} {tg:Expr} (a it:Addr):Turn P w K tg (Itt K a) [it] it (fun i h=>h.IsTupleIter it a i) where
 mem:=by simp
 obj:=fun i h st b hb=>by
  have e:b=it:=by simpa using hb
  subst e
  obtain⟨o,e,c,d⟩:=st
  exact⟨o,e,fun v z=>by rw [d] at z;cases z⟩
 keep:=fun i h h' st k=>st.at fun o e=>k it (by simp) o e
 item:=by
  intro X hP hw hK hc i pins s σ H E I hf st hg
  subst hP hw hK
  obtain⟨xs,x,hq,hx⟩:=hg
  obtain⟨its,rv,p,hz⟩:=I.tuple hq
  obtain⟨u,hu,ru⟩:=rv.get hx
  obtain⟨f0,f1,f2,f3,f4,f5⟩:=hf it (by simp)
  refine wpAny_pyNext_tuple_item st (show s.heap.IsTuple a its.toArray from p) (x:=u) (by simpa using hu) fun h' st' sb=> ?_
  have I1:Inv X pins σ H { s with heap:=h' }:=I.turned (t':=s.toks) (fun b o hb e=>(sb.2 b hb).trans e) f0 f1 f3 f4 f5
  obtain⟨o,e,c,d⟩:=id st'
  exact⟨u,rfl,sS (s:={ s with heap:=h' }) e c d (by decide) ⟨x,H,I1,ru,⟨rfl,fun ys hy=>by rw [I.tuple_inj hy hq];exact hx⟩,st',fun b hb=>(hf b hb).1⟩⟩
 done:=by
  intro X hP hw hK hc i pins s σ H E I hf st hg
  subst hP hw hK
  obtain⟨xs,hq,hx⟩:=hg
  obtain⟨its,rv,p,hz⟩:=I.tuple hq
  obtain⟨f0,f1,f2,f3,f4,f5⟩:=hf it (by simp)
  have hl:=rv.length
  exact wpAny_pyNext_tuple_end (I.ok.hd hc) st (show s.heap.IsTuple a its.toArray from p) (by simp;omega) fun h' eb=>⟨rfl,I.turned (t':=s.toks) (fun b o hb e=>eb b o hb e) f0 f1 f3 f4 f5⟩
 self:=fun _ _ _ _ _ st h=>wpAny_pyIter_tupleiter st h
theorem rD {P:Program} {w:World} {K:PySem.W.Frag} {tg:Expr} (it:Addr) (lo:Int) (n:Nat):Turn P w K tg (Itr lo n) [it] it (fun i h=>IsRangeIter h it (lo+(i:Nat) * 1) ((n:Int) - (i:Nat)) 1) where
 mem:=by simp
 obj:=fun i h st b hb=>by
  have e:b=it:=by simpa using hb
  subst e
  exact⟨_,st,fun v z=>by
   have z':Data.fields _=Data.cell v:=z
   cases z'⟩
 keep:=fun i h h' st k=>k it (by simp) _ st
 item:=by
  intro X hP hw hK hc i pins s σ H E I hf st hg
  subst hP hw hK
  obtain⟨f0,f1,f2,f3,f4,f5⟩:=hf it (by simp)
  have W:=Walks.range (prog:=X.prog) (w:=X.w) (I.ok.hd hc) it lo 1 n
  refine W.item i s _ _ hg st fun v h' tk hv st' kk=> ?_
  obtain⟨t,rfl⟩:=hv
  have I1:Inv X pins σ H { s with heap:=h',toks:=tk }:=I.turned (fun b o hb e=>kk b o (by simpa using hb) e) f0 f1 f3 f4 f5
  refine⟨_,rfl,sS (s:={ s with heap:=h',toks:=tk }) (n:="range_iterator") st' rfl rfl (by decide) ⟨.int (lo+i),H,I1,⟨t, ?_⟩,⟨rfl,rfl⟩,st',fun b hb=>(hf b hb).1⟩⟩
  rw [Int.mul_one]
 done:=by
  intro X hP hw hK hc i pins s σ H E I hf st hg
  subst hP hw hK
  obtain⟨f0,f1,f2,f3,f4,f5⟩:=hf it (by simp)
  exact wpAny_pyNext_range_end (I.ok.hd hc) st (by have:n<=i:=hg;omega) fun h' eb=>⟨rfl,I.turned (t':=s.toks) (fun b o hb e=>eb b o hb e) f0 f1 f3 f4 f5⟩
 self:=fun _ _ _ _ _ st h=>wpAny_pyIter_rangeiter st h
section
variable {X:Cx} {tg:Expr}
theorem xM {pins:List (Addr×Obj)} {σ:St} {H:Hp} {s:Shared} {R:It->Hp->Prop} {E:Value->Shared->Prop} {lo hi:Int} {t u v:Tok} {tk:Nat} (I:Inv X pins σ H s) (h1: -(2 ^ 62)<=lo) (h2:lo<2 ^ 62) (h3: -(2 ^ 62)<=hi) (h4:hi<2 ^ 62)
  (q:R (Itr lo (hi - lo).toNat) H):wpAny (model X.prog X.w) X.A (pyIter (.ref s.heap.objs.size)) (PIE X pins σ tg R) E { s with heap:=s.heap.push { cls:= .type "range",data:= .fields #[.int lo t, .int hi u, .int 1 v] },toks:=tk }:=by
 refine wpAny_pyIter_range (IsRange.new ..) (small_one h1 h2 h3 h4) ?_
 have I1:Inv X pins σ H { s with heap:=s.heap.push { cls:= .type "range",data:= .fields #[.int lo t, .int hi u, .int 1 v] },toks:=tk }:=I.kept fun b o e=>af _ e
 refine⟨(s.heap.push { cls:= .type "range",data:= .fields #[.int lo t, .int hi u, .int 1 v] }).objs.size,[(s.heap.push { cls:= .type "range",data:= .fields #[.int lo t, .int hi u, .int 1 v] }).objs.size],_,_,H,rfl,
  I1.kept (t':=tk) fun b o e=>af _ e,rD _ lo (hi - lo).toNat, ?_,fun b hb=> ?_,q⟩
 ·have e1:lo+((0:Nat):Int) * 1=lo:=by simp
  have e2:(((hi - lo).toNat:Nat):Int) - ((0:Nat):Int)=Builtin.Range.rangeSize lo hi 1:=by rw [rangeSize_one];split<;>omega
  show IsRangeIter _ _ (lo+((0:Nat):Int) * 1) ((((hi - lo).toNat:Nat):Int) - ((0:Nat):Int)) 1
  rw [e1,e2]
  exact ag _ rfl
 ·have e:b=(s.heap.push { cls:= .type "range",data:= .fields #[.int lo t, .int hi u, .int 1 v] }).objs.size:=by simpa using hb
  subst e
  exact I1.fpOk (aj _) (I1.hok.fresh (aj _))
noncomputable def aK9 (ta:TA):TI:=fun σ H R=>ta σ H fun vs H1=> ∃ j:Int,vs=[.int j]/\ -(2 ^ 62)<=j/\j<2 ^ 62/\R (Itr 0 j.toNat) H1
theorem lP {a:Expr} {ta:TA} {p pos:Pos} (hg:Gl X "range") (hm:X.mg "range"=none) (ha:PA X [a] ta) (hs:starEach [a] X.env=[(false,eval a X.env)]:=by rfl):PI X tg (.Call (.Name "range" p) [a] [] pos) (aK9 ta):=by
 intro pins s σ H R I h
 refine Call_ (fR I hg hm boot_range (PyProof.Rows.callWith_type1 (thn (ha pos pins s σ H _ I h) fun us s1 ⟨vs,H1,I1,r1,q1⟩=> ?_) hs rfl))
 obtain⟨j,e,q1,q2,q⟩:=q1
 subst e
 cases r1 with
 | cons r rr=>
  cases rr
  obtain⟨t,rfl⟩:=r
  exact call_range_1 (xM I1 (by omega) (by omega) q1 q2 (by simpa using q))
noncomputable def aOd (wi:TI) (g:TG) (tb:TS):TS:=fun D σ H=>wi σ H fun J H1=> ∃ W:Nat->Nat->St->Hp->Prop,(∃ m,W 0 m σ H1)/\ ∀ i m σ H,W i m σ H->
 (J.stop i H/\D.nx σ H)\/(J.go i H/\ ∃ N:St->Hp->Prop,(∀ σ' H',N σ' H'-> ∃ m',m'<m/\W (i+1) m' σ' H')/\ ∀ x H',J.yld i H x H'->g x σ H' fun σ2 H2=>tb { D with nx:=N,ct:=N,bk:=D.nx } σ2 H2)
noncomputable def jP (fp:List Addr) (h:Heap):List (Addr×Obj):=fp.filterMap fun b=>(h.get? b).map fun o=>(b,o)
theorem eR {fp:List Addr} {h:Heap} {b:Addr} {o:Obj} (hb:b∈fp) (e:h.get? b=some o):(b,o)∈jP fp h:=List.mem_filterMap.mpr ⟨b,hb,by rw [e];rfl⟩
theorem sT {fp:List Addr} {h:Heap} {p:Addr×Obj} (hp:p∈jP fp h):p.1∈fp/\h.get? p.1=some p.2:=by
 obtain⟨b,hb,e⟩:=List.mem_filterMap.mp hp
 cases q:h.get? b with
 | none=>rw [q] at e;cases e
 | some o=>
  rw [q] at e
  have e':(b,o)=p:=Option.some.inj e
  subst e'
  exact⟨hb,q⟩
theorem Inv.pinned {pins:List (Addr×Obj)} {σ:St} {H:Hp} {s:Shared} {fp:List Addr} (I:Inv X pins σ H s) (hf: ∀ b∈fp,nR X pins H b) (ho: ∀ b∈fp, ∃ o,s.heap.get? b=some o/\ ∀ v,o.data≠ .cell v):Inv X (pins++jP fp s.heap) σ H s:=
 I.pins_of fun p hp=>(List.mem_append.mp hp).elim (fun z=>I.pin p (bt _ z)) fun z=>by
  obtain⟨hb,e⟩:=sT z
  obtain⟨f0,f1,f2,_⟩:=hf p.1 hb
  obtain⟨o,e',d⟩:=ho p.1 hb
  rw [e] at e';cases e'
  exact⟨e,f0,f1,f2,d⟩
theorem Inv.unpinned {pins pl:List (Addr×Obj)} {σ:St} {H:Hp} {s:Shared} (I:Inv X (pins++pl) σ H s):Inv X pins σ H s:=I.pins_of fun p hp=>I.pin p (bt _ (List.mem_append_left _ hp))
theorem aG1 {iter:Expr} {body:List Stmt} {wi:TI} {g:TG} {tb:TS} {pos:Pos} (hp:PassesOwn (model X.prog X.w) X.A X.env X.xe) (hc:X.calm=true) (hi:PI X tg iter wi) (hg:PG X tg g) (hb:PSs X body tb)
  (hs: ∀ x,foldedSetIterable iter X.env x=pure x:=by intro _;rfl):PS X (.For tg iter body [] pos) (aOd wi g tb):=by
 intro pins s σ H D I h
 refine wpAny_For (thn (hi pins s σ H _ I h) fun v s1 h1=>thn h1 fun itv s2 h2=> ?_) hs
 obtain⟨it,fp,tn,J,H2,e,I2,T,st2,f2,W,⟨m0,w0⟩,turn⟩:=h2
 subst e
 -- what stays true of the iterator's objects through the loop
 have stat: ∀ {H':Hp},(∀ b∈fp,H' b=none)-> ∀ b∈fp,nR X pins H' b:=fun hn b hb=>⟨hn b hb,(f2 b hb).2⟩
 refine codeAny_forLoop_any (fun n s'=> ∃ i σ' H',Inv X pins σ' H' s'/\tn i s'.heap/\(∀ b∈fp,H' b=none)/\W i n σ' H') ?_ m0 ⟨0,σ,H2,I2,st2,fun b hb=>(f2 b hb).1,w0⟩
 rintro n s3 ⟨i,σ3,H3,I3,st3,fr3,w3⟩
 rcases turn i n σ3 H3 w3 with ⟨stop,qn⟩ | ⟨go,N,hN,step⟩
 ·refine wpAny_passesOwn hp (thn (T.done X rfl rfl rfl hc i pins s3 σ3 H3 X.xe I3 (stat fr3) st3 stop) fun r s4 hz_=> ?_)
  obtain⟨hr,I4⟩:=hz_
  subst hr
  exact wpAny_execs_nil ⟨σ3,H3,I4,qn⟩
 ·refine wpAny_passesOwn hp (thn (T.item X rfl rfl rfl hc i pins s3 σ3 H3 X.xe I3 (stat fr3) st3 go) fun r s4 hz_=> ?_)
  obtain⟨u,hr,h4⟩:=hz_
  subst hr
  refine wpAny_passesOwn hp (thn h4 fun _ s5 hz_=> ?_)
  obtain⟨x,H5,I5,r5,y5,st5,fr5⟩:=hz_
  have I5':=I5.pinned (stat fr5) (T.obj _ _ st5)
  refine wpAny_passesOwn hp (thn (hg _ s5 σ3 H5 x u _ I5' r5 (step x H5 y5)) fun _ s6 hz_=> ?_)
  obtain⟨σ6,H6,I6,q6⟩:=hz_
  refine wpAny_passesOwn hp (thn (hb _ s6 σ6 H6 _ I6 q6) fun f s7 q7=> ?_)
  have again: ∀ {σ7:St} {H7:Hp},Inv X (pins++jP fp s5.heap) σ7 H7 s7->N σ7 H7-> ∃ m,m<n/\ ∃ i σ' H',Inv X pins σ' H' s7/\tn i s7.heap/\(∀ b∈fp,H' b=none)/\W i m σ' H':=fun {σ7 H7} I7 n7=>by
   obtain⟨m',hm,w7⟩:=hN σ7 H7 n7
   refine⟨m',hm,i+1,σ7,H7,I7.unpinned,T.keep _ _ _ st5 fun b hb o e=>(I7.pin (b,o) (bt _ (bt _ (eR hb e)))).1,fun b hb=> ?_,w7⟩
   obtain⟨o,e,d⟩:=T.obj _ _ st5 b hb
   exact(I7.pin (b,o) (bt _ (bt _ (eR hb e)))).2.1
  cases f with
  | next=>obtain⟨σ7,H7,I7,n7⟩:=q7;exact again I7 n7
  | cont=>obtain⟨σ7,H7,I7,n7⟩:=q7;exact again I7 n7
  | brk=>obtain⟨σ7,H7,I7,q7⟩:=q7;exact⟨σ7,H7,I7.unpinned,q7⟩
  | ret v=>obtain⟨x7,σ7,H7,I7,r7,q7⟩:=q7;exact⟨x7,σ7,H7,I7.unpinned,r7,q7⟩
end
abbrev R2:=V->V->Hp->VK->Prop
def OpR (X:Cx) (f:Value->Value->Sem Value) (r:R2):Prop:=
 ∀ (pins:List (Addr×Obj)) (s:Shared) (σ:St) (H:Hp) (x y:V) (v u:Value) (Q:VK),Inv X pins σ H s->aP x v->aP y u->r x y H Q->
  wpAny (model X.prog X.w) X.A (f v u) (EP X pins σ Q) X.xe s
def UnR (X:Cx) (f:Value->Sem Value) (r:V->Hp->VK->Prop):Prop:=
 ∀ (pins:List (Addr×Obj)) (s:Shared) (σ:St) (H:Hp) (x:V) (v:Value) (Q:VK),Inv X pins σ H s->aP x v->r x H Q->
  wpAny (model X.prog X.w) X.A (f v) (EP X pins σ Q) X.xe s
def jG (X:Cx) (f:Value) (r:List V->Hp->VK->Prop):Prop:=
 ∀ (pins:List (Addr×Obj)) (s:Shared) (σ:St) (H:Hp) (xs:List V) (us:List Value) (Q:VK),Inv X pins σ H s->aY xs us->r xs H Q->
  wpAny (model X.prog X.w) X.A (call f us) (EP X pins σ Q) X.xe s
noncomputable def tUn (r:V->Hp->VK->Prop) (ta:TE):TE:=fun σ H Q=>ta σ H fun x H1=>r x H1 Q
noncomputable def rI (C:Int->Int->Prop) (g:Int->Int->V):R2:=fun x y H Q=> ∃ i j,x= .int i/\y= .int j/\C i j/\Q (g i j) H
noncomputable def rI0 (g:Int->Int->V):R2:=fun x y H Q=> ∃ i j,x= .int i/\y= .int j/\Q (g i j) H
noncomputable def rU (g:Int->V):V->Hp->VK->Prop:=fun x H Q=> ∃ i,x= .int i/\Q (g i) H
section
variable {X:Cx} {a b c:Expr} {ta tb tc:TE} {pos:Pos}
theorem aLa {op:UnaryOp} {r:V->Hp->VK->Prop} (ho:UnR X (unaryOp op) r) (ha:PE X a ta):PE X (.UnaryOp op a pos) (tUn r ta):=by
 intro pins s σ H Q I h
 exact UnaryOp_ (thn (ha pins s σ H _ I h) fun v s1 ⟨x,H1,I1,r1,q1⟩=>ho pins s1 σ H1 x v Q I1 r1 q1)
theorem opI {f:Value->Value->Sem Value} {C:Int->Int->Prop} {g:Int->Int->Int}
  (rule: ∀ (i j:Int) (t u:Tok) (s:Shared) (Q:Value->Shared->Prop) (E:Value->Shared->Prop),C i j->Q (.int (g i j) s.toks) { s with toks:=s.toks+1 }->wpAny (model X.prog X.w) X.A (f (.int i t) (.int j u)) Q E s):
  OpR X f (rI C fun i j=> .int (g i j)):=by
 intro pins s σ H x y v u Q I rx ry h
 obtain⟨i,j,rfl,rfl,hc,q⟩:=h
 obtain⟨t,rfl⟩:=rx
 obtain⟨t',rfl⟩:=ry
 exact rule i j t t' s _ _ hc ⟨.int (g i j),H,I.tok _,⟨_,rfl⟩,q⟩
theorem aG2 {f:Value->Value->Sem Value} {g:Int->Int->Int}
  (rule: ∀ (i j:Int) (t u:Tok) (s:Shared) (Q:Value->Shared->Prop) (E:Value->Shared->Prop),Q (.int (g i j) s.toks) { s with toks:=s.toks+1 }->wpAny (model X.prog X.w) X.A (f (.int i t) (.int j u)) Q E s):
  OpR X f (rI0 fun i j=> .int (g i j)):=by
 intro pins s σ H x y v u Q I rx ry h
 obtain⟨i,j,rfl,rfl,q⟩:=h
 obtain⟨t,rfl⟩:=rx
 obtain⟨t',rfl⟩:=ry
 exact rule i j t t' s _ _ ⟨.int (g i j),H,I.tok _,⟨_,rfl⟩,q⟩
theorem aKh {f:Value->Value->Sem Value} {g:Int->Int->Bool}
  (rule: ∀ (i j:Int) (t u:Tok) (s:Shared) (Q:Value->Shared->Prop) (E:Value->Shared->Prop),Q (.bool (g i j)) s->wpAny (model X.prog X.w) X.A (f (.int i t) (.int j u)) Q E s):
  OpR X f (rI0 fun i j=> .bl (g i j)):=by
 intro pins s σ H x y v u Q I rx ry h
 obtain⟨i,j,rfl,rfl,q⟩:=h
 obtain⟨t,rfl⟩:=rx
 obtain⟨t',rfl⟩:=ry
 exact rule i j t t' s _ _ ⟨.bl (g i j),H,I,rfl,q⟩
def aOe (i j:Int):Prop:=0<j/\j<1073741824
def aOf (i j:Int):Prop:=0<=j/\j<=1000000/\i.natAbs<2 ^ 64
def aLb (i j:Int):Prop:=(-(2 ^ 64)<i/\i<2 ^ 64)\/(-(2 ^ 64)<j/\j<2 ^ 64)
theorem aLb.ok {i j:Int} (h:aLb i j):IntMulOk i j:=by
 rcases h with ⟨h1,h2⟩ | ⟨h1,h2⟩
 ·exact .of_left (intBits_le_64 h1 h2)
 ·exact .of_right (intBits_le_64 h1 h2)
theorem rE (k:Nat):(0:Int)<=2 ^ k:=by
 rw [two_pow_cast]
 exact Int.natCast_nonneg _
theorem aG3:OpR X (binaryOp .Add) (rI0 fun i j=> .int (i+j)):=aG2 fun _ _ _ _ _ _ _ q=>add_int q
theorem aG4:OpR X (binaryOp .Sub) (rI0 fun i j=> .int (i - j)):=aG2 fun _ _ _ _ _ _ _ q=>sub_int q
theorem aG5:OpR X (binaryOp .Mult) (rI aLb fun i j=> .int (i * j)):=opI fun _ _ _ _ _ _ _ hc q=>mul_int q hc.ok
theorem aCa:OpR X (binaryOp .FloorDiv) (rI aOe fun i j=> .int (i / j)):=opI fun i j _ _ _ _ _ hc q=>by
 have h1:(0:Int)<j:=hc.1
 have h2:j<1073741824:=hc.2
 exact floordiv_int (by omega) (by rw [Int.fdiv_eq_ediv_of_nonneg i (by omega)];exact q) (.inl (PyProof.noPylong_small (by omega)))
theorem aG6:OpR X (binaryOp .Mod) (rI (fun _ j=>0<j) fun i j=> .int (i % j)):=opI fun i j _ _ _ _ _ hc q=>by
 have h1:(0:Int)<j:=hc
 exact mod_int' (by omega) (by rw [Int.fmod_eq_emod_of_nonneg i (by omega)];exact q)
theorem aG7:OpR X (binaryOp .LShift) (rI aOf fun i j=> .int (i * 2 ^ j.toNat)):=opI fun _ _ _ _ _ _ _ hc q=>lshift_int_small hc.1 hc.2.1 hc.2.2 q
theorem aG8:OpR X (binaryOp .RShift) (rI (fun _ j=>0<=j) fun i j=> .int (i / 2 ^ j.toNat)):=opI fun i j _ _ _ _ _ hc q=>
 rshift_int hc (by rw [Int.fdiv_eq_ediv_of_nonneg i (rE _)];exact q)
theorem aG9:OpR X (binaryOp .BitAnd) (rI0 fun i j=> .int (Builtin.bitAnd i j)):=aG2 fun _ _ _ _ _ _ _ q=>and_int q
theorem aLc:OpR X (binaryOp .BitOr) (rI0 fun i j=> .int (Builtin.bitOr i j)):=aG2 fun _ _ _ _ _ _ _ q=>or_int q
theorem aHa:OpR X (binaryOp .BitXor) (rI0 fun i j=> .int (Builtin.bitXor i j)):=aG2 fun _ _ _ _ _ _ _ q=>xor_int q
theorem unI {f:Value->Sem Value} {g:Int->Int}
  (rule: ∀ (i:Int) (t:Tok) (s:Shared) (Q:Value->Shared->Prop) (E:Value->Shared->Prop),Q (.int (g i) s.toks) { s with toks:=s.toks+1 }->wpAny (model X.prog X.w) X.A (f (.int i t)) Q E s):
  UnR X f (rU fun i=> .int (g i)):=by
 intro pins s σ H x v Q I rx h
 obtain⟨i,rfl,q⟩:=h
 obtain⟨t,rfl⟩:=rx
 exact rule i t s _ _ ⟨.int (g i),H,I.tok _,⟨_,rfl⟩,q⟩
theorem aHb:UnR X (unaryOp .USub) (rU fun i=> .int (-i)):=unI fun _ _ _ _ _ q=>neg_int q
end
section
variable {X:Cx} {a b c:Expr} {ta tb tc:TE} {pos:Pos}
theorem aAt {pins:List (Addr×Obj)} {σ:St} {H:Hp} {s:Shared} {Q:VK} {k k':Bool} (I:Inv X pins σ H s) (q:Q (.bl k) H) (e:k=k'):EP X pins σ Q (.bool k') s:=by
 subst e
 exact⟨.bl k,H,I,rfl,q⟩
theorem aLd:OpR X (compareOp .Lt) (rI0 fun i j=> .bl (decide (i<j))):=aKh fun _ _ _ _ _ _ _ q=>lt_int q
theorem aLe:OpR X (compareOp .LtE) (rI0 fun i j=> .bl (decide (i<=j))):=aKh fun _ _ _ _ _ _ _ q=>le_int q
theorem aLf:OpR X (compareOp .Gt) (rI0 fun i j=> .bl (decide (j<i))):=aKh fun _ _ _ _ _ _ _ q=>gt_int q
theorem aLg:OpR X (compareOp .GtE) (rI0 fun i j=> .bl (decide (j<=i))):=aKh fun _ _ _ _ _ _ _ q=>ge_int q
theorem aHc:OpR X (compareOp .Is) (fun x y H Q=>y= .non/\Q (.bl (decide (x= .non))) H):=by
 intro pins s σ H x y v u Q I rx ry h
 obtain⟨rfl,q⟩:=h
 cases ry
 refine is_none_gen (aAt I q ?_)
 cases x<;>first
  | (cases rx;rfl)
  | (obtain⟨t,rfl⟩:=rx;rfl)
theorem aCb:OpR X (compareOp .IsNot) (fun x y H Q=>y= .non/\Q (.bl (!decide (x= .non))) H):=by
 intro pins s σ H x y v u Q I rx ry h
 obtain⟨rfl,q⟩:=h
 cases ry
 refine isnot_none_gen (aAt I q ?_)
 cases x<;>first
  | (cases rx;rfl)
  | (obtain⟨t,rfl⟩:=rx;rfl)
theorem jQ:(sizeLine:Nat)<2 ^ 63:=by rw [sizeLine_eq];decide
theorem lQ {x:V} {us:List Value} (r:aY [x] us): ∃ u,us=[u]/\aP x u:=by
 cases r with
 | cons r1 r2=>cases r2;exact⟨_,rfl,r1⟩
theorem aHd {x y:V} {us:List Value} (r:aY [x,y] us): ∃ u w',us=[u,w']/\aP x u/\aP y w':=by
 cases r with
 | cons r1 r2=>
  cases r2 with
  | cons r3 r4=>cases r4;exact⟨_,_,rfl,r1,r3⟩
theorem aHe (hc:X.calm=true):jG X (.builtin "max") (fun xs H Q=> ∃ i j,xs=[.int i, .int j]/\Q (.int (if j > i then j else i)) H):=by
 intro pins s σ H xs us Q I r h
 obtain⟨i,j,rfl,q⟩:=h
 obtain⟨u,w',rfl,⟨t,rfl⟩,⟨t',rfl⟩⟩:=aHd r
 refine max_two_ints (I.ok.hd hc) fun h' tk k=>⟨_,H,I.kept k, ?_,q⟩
 by_cases hj:j > i
 ·rw [if_pos hj,if_pos hj];exact⟨_,rfl⟩
 ·rw [if_neg hj,if_neg hj];exact⟨_,rfl⟩
theorem aHf (hc:X.calm=true):jG X (.builtin "min") (fun xs H Q=> ∃ i j,xs=[.int i, .int j]/\Q (.int (if j<i then j else i)) H):=by
 intro pins s σ H xs us Q I r h
 obtain⟨i,j,rfl,q⟩:=h
 obtain⟨u,w',rfl,⟨t,rfl⟩,⟨t',rfl⟩⟩:=aHd r
 refine min_two_ints (I.ok.hd hc) fun h' tk k=>⟨_,H,I.kept k, ?_,q⟩
 by_cases hj:j<i
 ·rw [if_pos hj,if_pos hj];exact⟨_,rfl⟩
 ·rw [if_neg hj,if_neg hj];exact⟨_,rfl⟩
theorem lR:jG X (.type "int") (fun xs H Q=>(∃ i,xs=[.int i]/\Q (.int i) H)\/ ∃ k,xs=[.bl k]/\Q (.int (if k then 1 else 0)) H):=by
 intro pins s σ H xs us Q I r h
 rcases h with ⟨i,rfl,q⟩ | ⟨k,rfl,q⟩
 ·obtain⟨u,rfl,t,rfl⟩:=lQ r
  exact call_int_int ⟨.int i,H,I,⟨_,rfl⟩,q⟩
 ·obtain⟨u,rfl,r1⟩:=lQ r
  cases r1
  exact call_int_bool ⟨.int (if k then 1 else 0),H,I.tok _,⟨_,rfl⟩,q⟩
end
structure ObjM (h:Heap) (x dx C:Addr) (mA:Str->Option Value):Prop where
 obj:h.get? x=some (PySem.W.instObj C dx)
 ns:h.Ns1 dx mA
 ne:dx≠x
theorem sU {h:Heap} {dx:Addr} {mA:Str->Option Value} (n:h.Ns1 dx mA): ∃ od,h.get? dx=some od/\ ∀ name,PySem.W.lookIn name od=some (mA name):=by
 obtain⟨o,es,ep,ho,hd,hk,_,hm⟩:=n
 refine⟨o,ho,fun name=> ?_⟩
 have e:=hm name
 unfold nsFind findBy at e
 rw [<-Array.find?_toList] at e
 unfold PySem.W.lookIn
 rw [hd]
 dsimp only
 split
 ·rename_i y q
  rw [q] at e
  exact congrArg some e
 ·rename_i q
  rw [q] at e
  have a:es.toList.any (·.refKey)=false:=by
   rw [List.any_eq_false]
   intro y hy
   obtain⟨z,t,hkey⟩:=hk y (Array.mem_toList_iff.mp hy)
   simp [DictEntry.refKey,hkey]
  have a': ¬ es.toList.any (·.refKey)=true:=by rw [a];exact bf
  rw [if_neg a']
  exact congrArg some e
theorem ObjM.look {h:Heap} {x dx C:Addr} {mA:Str->Option Value} (I:ObjM h x dx C mA): ∃ od,PySem.W.InstAt h x (PySem.W.instObj C dx) C (some od)/\ ∀ name,PySem.W.lookIn name od=some (mA name):=
 let ⟨od,ho,hl⟩:=sU I.ns
 ⟨od,⟨I.obj,rfl,rfl,ho⟩,hl⟩
section
variable {prog:Program} {w:World} {A:Around} {E:Value->Shared->Prop} {s:Shared} {K:PySem.W.Frag} {x dx C f:Addr} {mA:Str->Option Value} {name:Str} {v:Value}
theorem aCc {expr:Bool} {Q:Value->Shared->Prop} (X:K.In s.heap) (I:ObjM s.heap x dx C mA) (hg:PySem.W.plainGet K C name=true) (hh:PySem.W.hasDictIn K C=true)
  (ha:PySem.W.findIn K (.ref C) name=some none) (hv:mA name=some v) (hv':PySem.W.handedIn v=true) (h:Q v { s with toks:=s.toks+1 }):
  wpAny (model prog w) A (getAttr (.ref x) name expr) Q E s:=by
 obtain⟨od,J,hl⟩:=I.look
 exact PySem.W.get_value X J (PySem.W.plainGet_of hg).1 (PySem.W.findObj_own hh ha rfl (by rw [hl,hv])) hv' h
theorem xN {pl:Sem Bool} {Q:Value×List Value->Shared->Prop} (X:K.In s.heap) (I:ObjM s.heap x dx C mA) (hg:PySem.W.plainGet K C name=true)
  (hf:PySem.W.findIn K (.ref C) name=some (some (.ref f))) (ht:PySem.W.isFn K (.ref f)=true) (hv:mA name=none) (h:Q (.ref f,[.ref x]) s):
  wpAny (model prog w) A (getMethod (.ref x) name pl) Q E s:=by
 obtain⟨od,J,hl⟩:=I.look
 exact PySem.W.method_fn X J (PySem.W.plainGet_of hg).1 (PySem.W.plainGet_of hg).2 hf (beq_iff_eq.mp ht) (by show(PySem.W.lookIn name od).map (·.isSome)=some false;rw [hl,hv];rfl) h
theorem aCd {ns:List Str} {Q:Unit->Shared->Prop} (X:K.In s.heap) (I:ObjM s.heap x dx C mA)
  (hs:PySem.W.findIn K (.ref C) "__setattr__"=some (some (.builtin "object.__setattr__"))) (hp:PySem.W.plainOver K C=true) (ht:PySem.W.takerIn K C name=some none) (hh:PySem.W.hasDictIn K C=true)
  (hw:PySem.Within mA ns) (hsz:ns.length<=sizeLine)
  (h: ∀ h',ObjM h' x dx C (fun y=>if y=name then some v else mA y)->Heap.SameBut dx s.heap h'->Q () { s with heap:=h',toks:=s.toks+2 }):
  wpAny (model prog w) A (setAttr (.ref x) name v) Q E s:=by
 obtain⟨od,J,hl⟩:=I.look
 refine PySem.W.set_plain X J hs (PySem.W.osa_open (s:={ s with toks:=s.toks+1 }) (r:=none) X J hp ht fun b=> ?_)
 obtain⟨cd,hc,hd'⟩:=PySem.W.any_some hh
 have hx:s.heap.get? x=some ⟨.ref C,some dx, .plain, #[]⟩:=I.obj
 refine aa (ae (aa (aa (wpAny_loadPart hx (aa (PySem.W.Looks.here (s:={ s with toks:=s.toks+1 }) (PySem.W.looks_clsIn X hc) ?_))))))
 rw [hd']
 refine ae (a:=some dx) (aa (ae (aa ?_)))
 refine wpAny_nsSet1 (s:={ s with toks:=s.toks+1 }) I.ns fun h' hn2 hs2=> ?_
 obtain⟨oD,esD,epD,hoD,hdD,hcD⟩:=hn2.count (PySem.Within.cons name v hw)
 refine aa (wpAny_lookBehind hoD (by rw [hdD];exact pastItsLine_dict (Nat.le_trans hcD (by rw [bq];omega))) ?_)
 exact ae (h _ ⟨(hs2.2 _ (Ne.symm I.ne)).trans I.obj,hn2,I.ne⟩ hs2)
theorem xO {R:Result->Shared->Prop} {vs:List Value} {kw:List (Str×Value)} (X:K.In s.heap) (hm:PySem.W.makesIn K C=true)
  (hi:PySem.W.findIn K (.ref C) "__init__"=some (some (.ref f))) (hf:PySem.W.typeIn K (.ref f)=some (.type "function"))
  (h:codeAny (model prog w) (A.under (.builtin "type.__call__" ⟨.ref C::vs,kw⟩)) (.call (.ref f) ⟨.ref (s.heap.objs.size+1)::vs,kw⟩) (PySem.W.InitBack (s.heap.objs.size+1) R)
   { s with heap:=(s.heap.push PySem.W.emptyDict).push (PySem.W.instObj C s.heap.objs.size) }):
  codeAny (model prog w) A (.call (.ref C) ⟨vs,kw⟩) R s:=by
 obtain⟨hh,g,d,t,os⟩:=s
 exact PySem.W.make_core (PySem.W.makes_of X hm) (PySem.W.looks_findIn X hi) (fun self=>PySem.W.bind_fn X self hf) (.inl rfl) h
end
noncomputable def nG (f:Str) (v:V):List (Str×V)->List (Str×V)
 | []=>[(f,v)]
 | (g,x)::r=>if g=f then(g,v)::r else(g,x)::nG f v r
theorem iG (f g:Str) (v:V): ∀ fs:List (Str×V),(nG f v fs).lookup g=if g=f then some v else fs.lookup g
 | []=>by
  show List.lookup g [(f,v)]=_
  by_cases h:g=f
  ·have hb:(g==f)=true:=beq_iff_eq.mpr h
   simp only [List.lookup,hb,if_pos h]
  ·have hb:(g==f)=false:=beq_eq_false_iff_ne.mpr h
   simp only [List.lookup,hb,if_neg h]
 | (k,x)::r=>by
  have ih:=iG f g v r
  rw [show nG f v ((k,x)::r)=(if k=f then(k,v)::r else(k,x)::nG f v r) from rfl]
  by_cases hk:k=f
  ·rw [if_pos hk]
   by_cases h:g=k
   ·have hb:(g==k)=true:=beq_iff_eq.mpr h
    simp only [List.lookup,hb,if_pos (h.trans hk)]
   ·have hb:(g==k)=false:=beq_eq_false_iff_ne.mpr h
    simp only [List.lookup,hb,if_neg (fun e:g=f=>h (e.trans hk.symm))]
  ·rw [if_neg hk]
   by_cases h:g=k
   ·have hb:(g==k)=true:=beq_iff_eq.mpr h
    simp only [List.lookup,hb,if_neg (fun e:g=f=>hk (h.symm.trans e))]
   ·have hb:(g==k)=false:=beq_eq_false_iff_ne.mpr h
    simp only [List.lookup,hb]
    exact ih
theorem iH (f:Str) (v:V): ∀ fs:List (Str×V),f∈(nG f v fs).map (·.1)/\ ∀ g,g∈fs.map (·.1)->g∈(nG f v fs).map (·.1)
 | []=>⟨by simp [nG],fun g h=>by simp at h⟩
 | (k,x)::r=>by
  obtain⟨i1,i2⟩:=iH f v r
  rw [show nG f v ((k,x)::r)=(if k=f then(k,v)::r else(k,x)::nG f v r) from rfl]
  by_cases hk:k=f
  ·rw [if_pos hk]
   subst hk
   exact⟨by simp,fun g h=>by simpa using h⟩
  ·rw [if_neg hk]
   refine⟨?_,fun g h=> ?_⟩
   ·rw [List.map_cons]
    exact List.mem_cons_of_mem _ i1
   ·rw [List.map_cons] at h ⊢
    rcases au.mp h with e | e
    ·exact au.mpr (.inl e)
    ·exact List.mem_cons_of_mem _ (i2 g e)
theorem iI (f:Str) (v:V): ∀ fs:List (Str×V),(nG f v fs).length<=fs.length+1
 | []=>by simp [nG]
 | (k,x)::r=>by
  have ih:=iI f v r
  rw [show nG f v ((k,x)::r)=(if k=f then(k,v)::r else(k,x)::nG f v r) from rfl]
  by_cases hk:k=f
  ·rw [if_pos hk,bq,bq];omega
  ·rw [if_neg hk,bq,bq];omega
theorem kH.some_of {v:V} {o:Option Value} (r:kH (some v) o): ∃ u,o=some u/\aP v u:=by
 cases o with
 | none=>exact(show False from r).elim
 | some u=>exact⟨u,rfl,r⟩
theorem kH.none_of {o:Option Value} (r:kH none o):o=none:=by
 cases o with
 | none=>rfl
 | some u=>exact(show False from r).elim
theorem sV {v:V} {u:Value} (r:aP v u):PySem.W.handedIn u=true:=by
 cases v with
 | non=>cases (show u=Value.none from r);rfl
 | bl b=>cases (show u=Value.bool b from r);rfl
 | int i=>obtain⟨t,e⟩:=(show ∃ t,u=Value.int i t from r);cases e;rfl
 | str x=>obtain⟨t,e⟩:=(show ∃ t,u=Value.str x t from r);cases e;rfl
 | byt b=>obtain⟨t,e⟩:=(show ∃ t,u=Value.bytes b t from r);cases e;rfl
 | flt b=>obtain⟨t,e⟩:=(show ∃ t,u=Value.float b t from r);cases e;rfl
 | ref a=>cases (show u=Value.ref a from r);rfl
 | ty n=>cases (show u=Value.type n from r);rfl
section
variable {P:Program} {w:World} {H H':Hp} {h h':Heap} {a C dx:Addr} {fs fs':List (Str×V)}
theorem nS (hok:HOk P w H h) (e:H a=some (.ins C dx fs)): ∃ mA,ObjM h a dx C mA/\(∀ f,kH (fs.lookup f) (mA f))/\PySem.Within mA (fs.map (·.1))/\fs.length<=1000/\H dx=some (.own a):=by
 obtain⟨d,z,ne,ob,mA,n,r,q⟩:=(show ObjOk P w H h a (.ins C dx fs) from hok a _ e)
 exact⟨mA,⟨ob,n,ne⟩,r,q,z,d⟩
end
structure Cls (K:PySem.W.Frag) (C:Addr):Prop where
 pg:PySem.W.plainGet K C Str.empty=true
 hd:PySem.W.hasDictIn K C=true
 po:PySem.W.plainOver K C=true
 sa:PySem.W.findIn K (.ref C) "__setattr__"=some (some (.builtin "object.__setattr__"))
theorem Cls.get {K:PySem.W.Frag} {C:Addr} (c:Cls K C) (f:Str):PySem.W.plainGet K C f=true:=c.pg
def fA (K:PySem.W.Frag) (C:Addr) (f:Str):Prop:=PySem.W.findIn K (.ref C) f=some none
theorem fA.taker {K:PySem.W.Frag} {C:Addr} {f:Str} (n:fA K C f):PySem.W.takerIn K C f=some none:=by
 unfold PySem.W.takerIn
 rw [show PySem.W.findIn K (.ref C) f=some none from n]
 rfl
structure Meth (K:PySem.W.Frag) (C:Addr) (m:Str) (f:Addr):Prop where
 at_:PySem.W.findIn K (.ref C) m=some (some (.ref f))
 fn:PySem.W.isFn K (.ref f)=true
 kp:PySem.W.keepIn K (.ref f)=true
section
variable {X:Cx} {pins:List (Addr×Obj)} {σ:St} {H:Hp} {s:Shared} {a C dx:Addr} {fs:List (Str×V)} {f:Str} {v:V} {A:Around} {E:Value->Shared->Prop}
theorem rF {b:Bool} {Q:Value->Shared->Prop} (I:Inv X pins σ H s) (e:H a=some (.ins C dx fs)) (c:Cls X.K C) (n:fA X.K C f) (l:fs.lookup f=some v)
  (h: ∀ u s',Inv X pins σ H s'->aP v u->Q u s'):wpAny (model X.prog X.w) A (getAttr (.ref a) f b) Q E s:=by
 obtain⟨mA,O,r,_,_,_⟩:=nS I.hok e
 obtain⟨u,hu,ru⟩:=kH.some_of (v:=v) (o:=mA f) (by rw [<-l];exact r f)
 exact aCc I.kIn O (c.get f) c.hd n hu (sV ru) (h u _ (I.tok _) ru)
theorem eS {m:Str} {g:Addr} {pl:Sem Bool} {Q:Value×List Value->Shared->Prop} (I:Inv X pins σ H s) (e:H a=some (.ins C dx fs)) (c:Cls X.K C) (k:Meth X.K C m g) (l:fs.lookup m=none)
  (h:Q (.ref g,[.ref a]) s):wpAny (model X.prog X.w) A (getMethod (.ref a) m pl) Q E s:=by
 obtain⟨mA,O,r,_,_,_⟩:=nS I.hok e
 have hn:mA m=none:=kH.none_of (by rw [<-l];exact r m)
 exact xN I.kIn O (c.get m) k.at_ k.fn hn h
theorem rG {y:V} {u:Value} {Q:Unit->Shared->Prop} (I:Inv X pins σ H s) (e:H a=some (.ins C dx fs)) (c:Cls X.K C) (n:fA X.K C f) (hl:fs.length<1000) (ry:aP y u)
  (h: ∀ s',Inv X pins σ (upd H a (.ins C dx (nG f y fs))) s'->Q () s'):wpAny (model X.prog X.w) A (setAttr (.ref a) f u) Q E s:=by
 obtain⟨mA,O,r,wi,_,ho⟩:=nS I.hok e
 have hz:(fs.map (·.1)).length<=sizeLine:=by rw [ao,sizeLine_eq];omega
 refine aCd I.kIn O c.sa c.po n.taker c.hd wi hz fun h' O' sb=>h _ ?_
 have hd: ∃ o,h'.get? dx=some o:=let ⟨o,_,_,e',_⟩:=O'.ns;⟨o,e'⟩
 refine I.write (x:=a) (e:=dx) (by rw [e];exact True.intro) (.inr ho) (fun b q hb z=>(sb.2 b hb).trans z) hd ?_
 refine⟨by rw [aA O.ne];exact ho, ?_,O.ne,O'.obj,_,O'.ns,fun g=> ?_,fun g hg=> ?_⟩
 ·have:=iI f y fs;omega
 ·show kH ((nG f y fs).lookup g) (if g=f then some u else mA g)
  rw [iG]
  by_cases q:g=f
  ·rw [if_pos q,if_pos q];exact ry
  ·rw [if_neg q,if_neg q];exact r g
 ·by_cases q:g=f
  ·rw [q];exact(iH f y fs).1
  ·refine(iH f y fs).2 g (wi g fun z=>hg ?_)
   show(if g=f then some u else mA g)=none
   rw [if_neg q];exact z
theorem Inv.made (I:Inv X pins σ H s):Inv X pins σ (upd (upd H s.heap.objs.size (.own (s.heap.objs.size+1))) (s.heap.objs.size+1) (.ins C s.heap.objs.size []))
  { s with heap:=(s.heap.push PySem.W.emptyDict).push (PySem.W.instObj C s.heap.objs.size) }:=by
 have e1:(s.heap.push PySem.W.emptyDict).get? s.heap.objs.size=some PySem.W.emptyDict:=ag s.heap rfl
 have e2:((s.heap.push PySem.W.emptyDict).push (PySem.W.instObj C s.heap.objs.size)).get? (s.heap.objs.size+1)=some (PySem.W.instObj C s.heap.objs.size):=by
  have:=ag (s.heap.push PySem.W.emptyDict) (o:=PySem.W.instObj C s.heap.objs.size) rfl
  rwa [ai] at this
 have e3:(s.heap.push PySem.W.emptyDict).Ns s.heap.objs.size (fun _=>none):=⟨PySem.W.emptyDict, #[],_,e1,rfl,(fun e he=>absurd he (by simp)),fun _=>rfl⟩
 have I1:=I.laid (a:=s.heap.objs.size) (o:= .own (s.heap.objs.size+1)) (h':=s.heap.push PySem.W.emptyDict) (t':=s.toks) (fun b u q=>af _ q) (aj _) ⟨_,e1⟩
 refine I1.laid (a:=s.heap.objs.size+1) (o:= .ins C s.heap.objs.size []) (t':=s.toks) (fun b u q=>af _ q) (Nat.le_of_eq (ai _ _)) ?_
 have ne:s.heap.objs.size≠s.heap.objs.size+1:=bh (Nat.lt_succ_self _)
 refine⟨by rw [aA ne,aE],bu _,ne,e2,fun _=>none,(Heap.Ns1.of_empty e3).at fun o q=>af _ q,fun _=>True.intro,fun y hy=>absurd rfl hy⟩
theorem aCe {prog:Program} {w:World} {env:Env} {e:Expr} {f:Str} {pos:Pos} {s:Shared} {Q:Value->Shared->Prop} (hb:attributeBase e f env (eval e env)=eval e env)
  (h:wpAny (model prog w) A (eval e env) (fun o s₁=>wpAny (model prog w) A (getAttr o f true) Q E s₁) E s):wpAny (model prog w) A (eval (.Attribute e f pos) env) Q E s:=
 Attribute_any_ h (by rw [arm_eval_Attribute,hb])
end
noncomputable def aKi (K:PySem.W.Frag) (ta:TE) (f:Str):TE:=fun σ H Q=>ta σ H fun x H1=> ∃ a C dx fs v,x= .ref a/\H1 a=some (.ins C dx fs)/\Cls K C/\fA K C f/\fs.lookup f=some v/\Q v H1
noncomputable def aOg (K:PySem.W.Frag) (ta tv:TE) (f:Str):TS:=fun D σ H=>tv σ H fun y H1=>ta σ H1 fun x H2=> ∃ a C dx fs,x= .ref a/\H2 a=some (.ins C dx fs)/\Cls K C/\fA K C f/\fs.length<1000/\
 D.nx σ (upd H2 a (.ins C dx (nG f y fs)))
section
variable {X:Cx} {o e value:Expr} {f:Str} {pos pos' tpos:Pos} {ta tv:TE}
theorem fB (he:PE X e ta) (hb:attributeBase e f X.env (eval e X.env)=eval e X.env):PE X (.Attribute e f pos) (aKi X.K ta f):=by
 intro pins s σ H Q I h
 refine aCe hb (thn (he pins s σ H _ I h) fun u s1 hz_=> ?_)
 obtain⟨x,H1,I1,rx,a,C,dx,fs,v,ex,ea,c,n,l,q⟩:=hz_
 subst ex
 obtain rfl:u=Value.ref a:=rx
 exact rF I1 ea c n l fun u' s2 I2 ru=>⟨v,H1,I2,ru,q⟩
theorem pD (ha:PE X o ta) (hv:PE X value tv) (hs:swapsWith value (some (.Attribute o f pos')) pos.line X.env=pure false):PS X (.Assign [.Attribute o f pos'] value pos) (aOg X.K ta tv f):=by
 intro pins s σ H D I h
 refine plainObj_wpAny_Assign_Attribute (thn (hv pins s σ H _ I h) fun u s1 ⟨y,H1,I1,ry,q⟩=>thn (ha pins s1 σ H1 _ I1 q) fun ov s2 ⟨x,H2,I2,rx,a,C,dx,fs,ex,ea,c,n,l,q2⟩=> ?_) hs
 subst ex
 obtain rfl:ov=Value.ref a:=rx
 exact rG I2 ea c n l ry fun s3 I3=>⟨σ,_,I3,q2⟩
end
section
variable {X:Cx} {pins:List (Addr×Obj)} {σ:St} {H:Hp} {s:Shared} {A:Around} {E:Value->Shared->Prop} {Q:Value->Shared->Prop} {c:Value} {b:Bool}
end
structure Room (k:Nat) (A:Around):Prop where
 hd:A.handled=none
 dp:A.depth+3 * k+5<recursionLimit
 un:A.units+16 * k+200<cLine
theorem Room.mono {j k:Nat} {A:Around} (r:Room k A) (h:j<=k):Room j A:=⟨r.hd,by have:=r.dp;omega,by have:=r.un;omega⟩
theorem Room.deeper {k:Nat} {A:Around} (r:Room (k+1) A) (env:Env):Room k (A.deeper env):=
 ⟨r.hd,by have:=r.dp;show A.depth+1+3 * k+5<_;omega,by have:=r.un;show A.units+3+16 * k+200<_;omega⟩
theorem rH {A:Around} {C:Addr} {us:List Value} {kw:List (Str×Value)}:(A.under (.builtin "type.__call__" ⟨.ref C::us,kw⟩)).depth=A.depth+1:=by
 first | rfl | simp [Around.under,Code.weight,Code.isCreation,Code.isGuard,Code.isCaller,Code.frames,Code.isFrame,guardIds]
theorem rJ {A:Around} {C:Addr} {us:List Value} {kw:List (Str×Value)}:(A.under (.builtin "type.__call__" ⟨.ref C::us,kw⟩)).units=A.units+1:=by
 first | rfl | simp [Around.under,Code.cUnits,Code.frames,Code.isFrame]
theorem Room.make {k:Nat} {A:Around} (r:Room (k+1) A) (C:Addr) (us:List Value) (kw:List (Str×Value)):Room k (A.under (.builtin "type.__call__" ⟨.ref C::us,kw⟩)):=
 ⟨r.hd,by have:=r.dp;rw [rH];omega,by have:=r.un;rw [rJ];omega⟩
theorem Room.depth {k:Nat} {A:Around} (r:Room k A):A.depth<recursionLimit:=by have:=r.dp;omega
theorem Room.units {k:Nat} {A:Around} (r:Room k A):A.units+64<cLine:=by have:=r.un;omega
noncomputable def xP:TA:=fun _ H Q=>Q [] H
noncomputable def iJ (ta:TE) (tr:TA):TA:=fun σ H Q=>ta σ H fun x H1=>tr σ H1 fun xs H2=>Q (x::xs) H2
section
variable {X:Cx} {e:Expr} {es:List Expr} {te:TE} {t:TA} {pos:Pos}
theorem cL:PA X [] xP:=fun _ _ _ _ H Q I h=>Calls.spliced_nil ⟨[],H,I, .nil,h⟩
theorem bE (ha:PE X e te) (hr:PA X es t) (hs:starEach (e::es) X.env=(false,eval e X.env)::starEach es X.env:=by rfl):PA X (e::es) (iJ te t):=by
 intro pos pins s σ H Q I h
 rw [hs]
 show wpAny _ _ (spliced ((false,eval e X.env)::backTo pos (starEach es X.env))) _ _ s
 refine Calls.spliced_cons (thn (ha pins s σ H _ I h) fun u s1 hz_=> ?_)
 obtain⟨x,H1,I1,r1,q1⟩:=hz_
 exact thn (hr pos pins s1 σ H1 _ I1 q1) fun us s2 ⟨xs,H2,I2,r2,q2⟩=>⟨x::xs,H2,I2, .cons r1 r2,q2⟩
noncomputable def aOh (t:TA):TE:=fun σ H Q=>t σ H fun xs H1=>xs.length<=sizeLine/\ ∀ p,H1 p=none->Q (.ref p) (upd H1 p (.tup xs))
noncomputable def aOi (t:TA):TE:=fun σ H Q=>t σ H fun xs H1=>xs.length<=sizeLine/\ ∀ p,H1 p=none->Q (.ref p) (upd H1 p (.lst xs))
theorem aAu {x1} (h:PA X es t):PE X (.Tuple es x1 pos) (aOh t):=by
 intro pins s σ H Q I hq
 refine wpAny_Tuple_spliced (thn (h pos pins s σ H _ I hq) fun us s1 ⟨xs,H1,I1,r,z,q⟩=>⟨by rw [<-r.length];exact z, ?_⟩)
 have hf:H1 s1.heap.objs.size=none:=I1.hok.fresh (aj _)
 refine⟨.ref s1.heap.objs.size,upd H1 s1.heap.objs.size (.tup xs),I1.laid (t':=s1.toks) (fun b u e=>af _ e) (aj _) ?_,rfl,q _ hf⟩
 exact⟨z,us,r,⟨_,ag _ rfl,rfl,_,rfl⟩,⟨_,ag _ rfl,rfl⟩⟩
theorem pE (h:PA X es t):PE X (.List es pos) (aOi t):=by
 intro pins s σ H Q I hq
 refine wpAny_List_spliced (thn (h pos pins s σ H _ I hq) fun us s1 ⟨xs,H1,I1,r,z,q⟩=>⟨by rw [<-r.length];exact z, ?_⟩)
 have hf:H1 s1.heap.objs.size=none:=I1.hok.fresh (aj _)
 refine⟨.ref s1.heap.objs.size,upd H1 s1.heap.objs.size (.lst xs),I1.laid (t':=s1.toks) (fun b u e=>af _ e) (aj _) ?_,rfl,q _ hf⟩
 exact⟨z,us,0,r,ag _ rfl⟩
end
abbrev Sp:=List V->Hp->VK->XK->Prop
abbrev CXT:=List Env->Hp->Shared->XK->Value->Shared->Prop
structure Env0 (P:Program) (w:World) (K:PySem.W.Frag) (mg:Str->Option Value) (base:Heap) (A:Around) (outer:List Env) (s:Shared) (H:Hp):Prop where
 frames:A.frames=some outer
 mod:Mod K mg base
 bs: ∀ b o,base.get? b=some o->s.heap.get? b=some o/\H b=none
 bsz:base.objs.size<=s.heap.objs.size
 funs:s.heap.FunFrames base outer
 frf: ∀ b∈frs outer,H b=none
 hok:HOk P w H s.heap
 bare:AllBare s.gens
def CE (outer:List Env) (P:Program) (w:World) (H:Hp) (s:Shared) (Q:VK) (u:Value) (s':Shared):Prop:=
 ∃ v H',s'.os=s.os/\AllBare s'.gens/\Un (frs outer) [] H H' s.heap s'.heap/\HOk P w H' s'.heap/\aP v u/\Q v H'
def CR (CX:CXT) (outer:List Env) (P:Program) (w:World) (H:Hp) (s:Shared) (Q:VK) (E:XK) (r:Result) (s':Shared):Prop:=
 match r with
 | .ok (.ret u)=>CE outer P w H s Q u s'
 | .ok _=>False
 | .error e=>CX outer H s E e s'
structure FnOk (P:Program) (w:World) (K:PySem.W.Frag) (mg:Str->Option Value) (base:Heap) (CX:CXT) (k:Nat) (f:Addr) (fd:FuncData) (ps:List Str) (sp:Sp):Prop where
 len: ∀ vs H Q E,sp vs H Q E->vs.length=ps.length
 run: ∀ (A:Around) (outer:List Env) (s:Shared) (H:Hp) (args:Args) (us:List Value) (vs:List V) (Q:VK) (E:XK),Room k A->Env0 P w K mg base A outer s H->BindsTo s fd args (ps.zip us)->aY vs us->sp vs H Q E->
  codeAny (model P w) A (.call (.ref f) args) (CR CX outer P w H s Q E) s
theorem Env0.make {P:Program} {w:World} {K:PySem.W.Frag} {mg:Str->Option Value} {base:Heap} {A:Around} {outer:List Env} {s:Shared} {H:Hp} (e:Env0 P w K mg base A outer s H) (C:Addr) (us:List Value) (kw:List (Str×Value)):
  Env0 P w K mg base (A.under (.builtin "type.__call__" ⟨.ref C::us,kw⟩)) outer s H:=⟨by first | exact e.frames | (simpa [Around.under,Code.envs,Code.isFrame,pushEnvs] using e.frames),e.mod,e.bs,e.bsz,e.funs,e.frf,e.hok,e.bare⟩
section
variable {X:Cx} {pins:List (Addr×Obj)} {σ:St} {H:Hp} {s s':Shared}
theorem Inv.env0 (I:Inv X pins σ H s):Env0 X.prog X.w X.K X.mg X.base X.A X.stack s H:=
 ⟨I.ok.frames,I.ok.mod,I.bs,Nat.le_trans I.ok.bsz I.sz,I.stack,I.stkFree,I.hok,I.bare⟩
theorem Inv.after {Q:VK} {u:Value} (I:Inv X pins σ H s) (h:CE X.stack X.prog X.w H s Q u s'):EP X pins σ Q u s':=by
 obtain⟨v,H',os,bare,un,hok,r,q⟩:=h
 obtain⟨hh,g,d,t,os'⟩:=s'
 obtain rfl:os'=s.os:=os
 exact⟨v,H',I.call (h':=hh) (g':=g) (d':=d) (t':=t) (ch:=[]) un hok bare (fun b z=>absurd z (by simp)),r,q⟩
end
noncomputable def aLh (C:Addr) (sp:Sp) (dvs:List V) (E:XK) (t:TA):TE:=fun σ H Q=>t σ H fun vs H1=> ∀ x dx,H1 x=none->H1 dx=none->dx≠x->
 sp (.ref x::(vs++dvs)) (upd (upd H1 dx (.own x)) x (.ins C dx [])) (fun v H2=>v= .non/\Q (.ref x) H2) E
def eK (K:PySem.W.Frag) (fd:FuncData) (ps:List Str) (ds:List Value):Prop:=
 ∀ (s:Shared) (us:List Value),K.In s.heap->(us++ds).length=ps.length->BindsTo s fd ⟨us,[]⟩ (ps.zip (us++ds))
theorem eK.all {K:PySem.W.Frag} {fd:FuncData} {ps:List Str} (h: ∀ us:List Value,us.length=ps.length->bindArgs fd ⟨us,[]⟩=pure (ps.zip us)):eK K fd ps []:=fun s us _ hl=>by
 rw [List.append_nil] at hl ⊢
 exact .of_eq (h us hl)
def aAv (CX:CXT) (X:Cx) (E:XK):Prop:= ∀ (pins:List (Addr×Obj)) (σ:St) (H:Hp) (s:Shared) (e:Value) (s':Shared),Inv X pins σ H s->CX X.stack H s E e s'->X.xe e s'
section
variable {X:Cx} {CX:CXT} {k:Nat} {f C:Addr} {fd:FuncData} {ps:List Str} {sp:Sp} {dvs:List V} {ds:List Value} {E:XK} {x m:Str} {p pos apos:Pos} {e o:Expr} {es:List Expr} {ta:TE} {t:TA}
structure Mk (K:PySem.W.Frag) (C f:Addr):Prop where
 makes:PySem.W.makesIn K C=true
 init:PySem.W.findIn K (.ref C) "__init__"=some (some (.ref f))
 fn:PySem.W.isFn K (.ref f)=true
 kp:PySem.W.keepIn K (.ref C)=true
theorem xQ {pins:List (Addr×Obj)} {σ:St} {H:Hp} {s:Shared} {Q:VK} {us:List Value} {vs:List V} (M:Mk X.K C f) (F:FnOk X.prog X.w X.K X.mg X.base CX k f fd ps sp) (hr:Room (k+1) X.A) (hb:eK X.K fd ps ds) (hd:aY dvs ds)
  (hx:aAv CX X E) (I:Inv X pins σ H s) (r:aY vs us)
  (h: ∀ x dx,H x=none->H dx=none->dx≠x->sp (.ref x::(vs++dvs)) (upd (upd H dx (.own x)) x (.ins C dx [])) (fun v H2=>v= .non/\Q (.ref x) H2) E):
  wpAny (model X.prog X.w) X.A (call (.ref C) us) (EP X pins σ Q) X.xe s:=by
 have hq:=h (s.heap.objs.size+1) s.heap.objs.size (I.hok.fresh (Nat.le_succ _)) (I.hok.fresh (aj _)) (bh (Nat.lt_succ_self _))
 have I2:=Inv.made (C:=C) I
 have r2:aY (V.ref (s.heap.objs.size+1)::(vs++dvs)) (Value.ref (s.heap.objs.size+1)::(us++ds)):= .cons rfl (r.append hd)
 have hl:(Value.ref (s.heap.objs.size+1)::us++ds).length=ps.length:=by
  have e:=r2.length
  rw [F.len _ _ _ _ hq] at e
  exact e.symm
 refine wpAny_call (xO (f:=f) I.kIn M.makes M.init (beq_iff_eq.mp M.fn) (codeAny_mono (F.run _ X.stack _ _ ⟨Value.ref (s.heap.objs.size+1)::us,[]⟩ (Value.ref (s.heap.objs.size+1)::(us++ds)) _ _ E (hr.make C us [])
  (I2.env0.make C us []) (hb _ (Value.ref (s.heap.objs.size+1)::us) I2.kIn hl) r2 hq) fun r s' hq'=> ?_))
 cases r with
 | error e=>exact hx pins σ _ _ e s' I2 hq'
 | ok fl=>
  cases fl with
  | ret u=>
   obtain⟨v,H',I3,rv,ev,q3⟩:=I2.after hq'
   subst ev
   exact⟨rv,⟨V.ref (s.heap.objs.size+1),H',I3,rfl,q3⟩⟩
  | next=>exact az hq'
  | brk=>exact az hq'
  | cont=>exact az hq'
theorem pF (M:Mk X.K C f) (F:FnOk X.prog X.w X.K X.mg X.base CX k f fd ps sp) (hr:Room (k+1) X.A) (hg:Gl X x) (hm:X.mg x=some (.ref C)) (hb:eK X.K fd ps ds) (hd:aY dvs ds) (hx:aAv CX X E)
  (hdb:(x==("__debug__":Str))=false:=by decide):PE X (.Call (.Name x p) [] [] pos) (aLh C sp dvs E xP):=by
 intro pins s σ H Q I h
 refine wpAny_Call_Name_kw (gH I hg hm ?_ hdb)
 exact PySem.W.callWith_K0 I.kIn M.kp (xQ (us:=[]) M F hr hb hd hx I .nil h)
end
section
variable {X:Cx} {CX:CXT} {k:Nat} {f C:Addr} {fd:FuncData} {ps ks:List Str} {sp:Sp} {E:XK} {x m:Str} {p pos apos kpos:Pos} {e o:Expr} {es:List Expr} {kws:List Keyword} {te ta:TE} {t tk:TA} {nm:Option Str}
variable {g:List Value->List Value->List Value} {gV:List V->List V->List V}
end
structure FnScope (N P:List Str) (sc:Scope):Prop where
 kind:sc.kind= .function
 co:sc.isCoroutine=false
 gen:sc.isGenerator=false
 nd:N.Nodup
 pre:N.take P.length=P
 par: ∀ x∈P,sc.names.lookup x=some .local\/sc.names.lookup x=some .cell
 nofree: ∀ y∈sc.names,y.2≠ .free
theorem lT {kindOf:Str->Option NameKind} {x:Str}: ∀ {binds:List (Str×Value)} {m:Str->Option Value},(∀ v,(x,v)∉binds)->bindL kindOf binds m x=m x
 | [],_,_=>rfl
 | (n,v)::r,m,h=>by
  unfold bindL
  rw [lT fun w hw=>h w (List.mem_cons_of_mem _ hw)]
  split
  ·have:x≠n:=by rintro rfl;exact h v List.mem_cons_self
   simp [this]
  ·rfl
theorem lU {kindOf:Str->Option NameKind} {x:Str}: ∀ {binds:List (Str×Value)} {m:Str->Option Value},(∀ v,(x,v)∉binds)->bindC kindOf binds m x=m x
 | [],_,_=>rfl
 | (n,v)::r,m,h=>by
  unfold bindC
  rw [lU fun w hw=>h w (List.mem_cons_of_mem _ hw)]
  split
  ·rfl
  ·have:x≠n:=by rintro rfl;exact h v List.mem_cons_self
   simp [this]
theorem lV {kindOf:Str->Option NameKind} {x:Str} {v:Value}: ∀ {P:List Str} {vs:List Value} {i:Nat} {m:Str->Option Value},P.Nodup->P[i]? =some x->vs[i]? =some v->kindOf x=some .local->
  bindL kindOf (P.zip vs) m x=some v
 | [],_,_,_,_,h,_,_=>by simp at h
 | _::_,[],_,_,_,_,h,_=>by simp at h
 | p::P,w::vs,0,m,nd,h1,h2,hk=>by
  simp at h1 h2;subst h1;subst h2
  show bindL kindOf ((p,w)::P.zip vs) m p=_
  unfold bindL
  rw [lT fun v hv=>(List.nodup_cons.mp nd).1 (List.of_mem_zip hv).1,if_pos hk]
  simp
 | p::P,w::vs,i+1,m,nd,h1,h2,hk=>by
  show bindL kindOf ((p,w)::P.zip vs) m x=_
  unfold bindL
  exact lV (i:=i) (List.nodup_cons.mp nd).2 (by simpa using h1) (by simpa using h2) hk
theorem lW {kindOf:Str->Option NameKind} {x:Str} {v:Value}: ∀ {P:List Str} {vs:List Value} {i:Nat} {m:Str->Option Value},P.Nodup->P[i]? =some x->vs[i]? =some v->kindOf x≠some .local->
  bindC kindOf (P.zip vs) m x=some v
 | [],_,_,_,_,h,_,_=>by simp at h
 | _::_,[],_,_,_,_,h,_=>by simp at h
 | p::P,w::vs,0,m,nd,h1,h2,hk=>by
  simp at h1 h2;subst h1;subst h2
  show bindC kindOf ((p,w)::P.zip vs) m p=_
  unfold bindC
  rw [lU fun v hv=>(List.nodup_cons.mp nd).1 (List.of_mem_zip hv).1,if_neg hk]
  simp
 | p::P,w::vs,i+1,m,nd,h1,h2,hk=>by
  show bindC kindOf ((p,w)::P.zip vs) m x=_
  unfold bindC
  exact lW (i:=i) (List.nodup_cons.mp nd).2 (by simpa using h1) (by simpa using h2) hk
noncomputable def start (N:List Str) (vs:List V):St:=vs.map some++ak (N.length - vs.length) none
noncomputable def lX (CX:CXT) (P:Program) (w:World) (K:PySem.W.Frag) (mg:Str->Option Value) (base:Heap) (N:List Str) (qual:Str) (scope:Scope) (f:Addr) (cd:Value) (A:Around) (outer:List Env) (s:Shared) (H:Hp) (E:XK):Cx where
 prog:=P
 w:=w
 K:=K
 mg:=mg
 base:=base
 A:=A.deeper (envOfC qual scope s.heap.objs.size f cd)
 N:=N
 s₀:=s
 H₀:=H
 env:=envOfC qual scope s.heap.objs.size f cd
 outer:=outer
 stack:=envOfC qual scope s.heap.objs.size f cd::outer
 ex:=[]
 calm:=true
 fn:=fun _=>true
 pn:=[]
 xe:=fun e s'=>wpAny (model P w) (A.deeper (envOfC qual scope s.heap.objs.size f cd)) (leaving (envOfC qual scope s.heap.objs.size f cd) e) (fun _ s''=>CX outer H s E e s'') (fun e' s''=>CX outer H s E e' s'') s'
theorem pG {sc:Scope} {n:Nat} {x:Str} (h:sc.names.lookup x=some .cell): ∃ c,(cellsFrom n sc.names []).lookup x=some c:=by
 have q:=PySem.W.cellsFrom_some sc.names n [] (.inl h)
 exact Option.isSome_iff_exists.mp q
theorem iK {CX:CXT} {P:Program} {w:World} {K:PySem.W.Frag} {mg:Str->Option Value} {base:Heap} {N ps:List Str} {qual:Str} {scope:Scope} {f:Addr} {cd:Value} {A:Around} {outer:List Env} {s s1:Shared} {H:Hp} {E:XK} {us:List Value} {vs:List V}
  (S:FnScope N ps scope) (hd:A.handled=none) (e0:Env0 P w K mg base A outer s H) (hl:vs.length=ps.length) (r:aY vs us)
  (x:InCallC s s.heap.objs.size (bindL (envOfC qual scope s.heap.objs.size f cd).kindOf (ps.zip us) fun _=>none) (cellsFrom (s.heap.objs.size+1) scope.names []) (bindC (envOfC qual scope s.heap.objs.size f cd).kindOf (ps.zip us) fun _=>none) s1):
  Inv (lX CX P w K mg base N qual scope f cd A outer s H E) [] (start N vs) H s1:=by
 have hpl:ps.length<=N.length:=by have:=congrArg List.length S.pre;rw [List.length_take] at this;omega
 obtain⟨h1,tk,rfl,hk⟩:=x.done
 have noA: ∀ b:Addr,b∉(lX CX P w K mg base N qual scope f cd A outer s H E).ex:=fun b z=>absurd (show b∈([]:List Addr) from z) (by simp)
 refine⟨⟨e0.mod,S.kind,rfl,rfl,aj _,fun y z c h1 h2=> ?_,fun y hy=> ?_,fun y c _ h=> ?_,fun _=>hd,Around.frames_deeper e0.frames, .inr ⟨rfl,rfl⟩,fun b z=>absurd z (noA b),e0.bs,e0.bsz,fun b _ _=>noA b,fun b z=>absurd z (noA b),e0.funs,e0.frf⟩,
  rfl,e0.bare,Un.kept hk,⟨_,x.toInCall.ns,fun i y v h1 h2 h3=> ?_⟩,fun y c h=>⟨_,x.cell y c h⟩,e0.hok.fresh (aj _),fun y c h=> ?_,fun p hp=>absurd (show p∈([]:List (Addr×Obj)) from hp) (by simp),e0.hok.kept hk, ?_⟩
 ·exact name_of_addr x.apart (PySem.mem_of_lookup h1) (PySem.mem_of_lookup h2)
 ·have hy:scope.names.lookup y=some .cell\/scope.names.lookup y=some .free:=hy
  rcases hy with hy | hy
  ·exact pG hy
  ·exact absurd rfl (S.nofree _ (PySem.mem_of_lookup hy))
 ·exact Nat.le_of_lt (x.above y c (PySem.mem_of_lookup h))
 ·have hi:i<vs.length:=by
   unfold start at h2
   by_cases hi:i<vs.length
   ·exact hi
   ·rw [bn (by simpa using hi)] at h2
    rw [List.getElem?_replicate] at h2
    split at h2<;>cases h2
  have ha:vs[i]? =some v:=by
   unfold start at h2
   rw [bx (by simpa using hi),List.getElem?_map] at h2
   cases e:vs[i]? with
   | none=>rw [e] at h2;cases h2
   | some a=>rw [e] at h2;cases h2;rfl
  obtain⟨u,hu,rv⟩:=r.get ha
  have hp:ps[i]? =some y:=by
   rw [<-S.pre,List.getElem?_take_of_lt (by omega)];exact h1
  have ndP:ps.Nodup:=by rw [<-S.pre];exact S.nd.sublist (List.take_sublist _ _)
  refine⟨u,rv, ?_⟩
  rcases S.par y (List.mem_of_getElem? hp) with k | k
  ·exact .inl ⟨k,lV ndP hp hu k⟩
  ·obtain⟨c,e⟩:=pG (n:=s.heap.objs.size+1) k
   refine .inr ⟨.inl k,c,e, ?_⟩
   have q:=x.cell y c e
   rw [lW ndP hp hu (by show scope.names.lookup y≠_;rw [k];decide)] at q
   exact q
 ·exact e0.hok.fresh (Nat.le_of_lt (x.above y c (PySem.mem_of_lookup h)))
 ·unfold start
  show _=N.length
  rw [bo,ao,List.length_replicate]
  omega
theorem aCf {CX:CXT} {P:Program} {w:World} {K:PySem.W.Frag} {mg:Str->Option Value} {base:Heap} {k:Nat} {f:Addr} {name qual:Str} {params:Arguments} {body:List Stmt} {scope:Scope} {dV kV doc pm cdv ct oc:Value} {an od:Option Addr}
  {osl:Array (Option Value)} {N ps:List Str} {sp:Sp} (lk:K.lookup f=some ⟨oc,od, .func (PySem.W.fnOf name qual params body scope dV kV doc pm an cdv ct),osl⟩) (hcd:PySem.W.codeIn K cdv qual=true) (S:FnScope N ps scope)
  (len: ∀ vs H Q E,sp vs H Q E->vs.length=ps.length)
  (hbody: ∀ (A:Around) (outer:List Env) (s:Shared) (H:Hp) (vs:List V) (Q:VK) (E:XK),Room k (A.deeper (envOfC qual scope s.heap.objs.size f cdv))->sp vs H Q E->
   ∃ t,PSs (lX CX P w K mg base N qual scope f cdv A outer s H E) body t/\t { nx:=fun _ H'=>Q .non H',rt:=Q } (start N vs) H):
  FnOk P w K mg base CX (k+1) f (PySem.W.fnOf name qual params body scope dV kV doc pm an cdv ct) ps sp:=by
 refine⟨len,fun A outer s H args us vs Q E hr e0 hb r hsp=> ?_⟩
 have hl:=len _ _ _ _ hsp
 have KX:K.In s.heap:=e0.mod.kin.keeps fun b o e=>(e0.bs b o e).1
 have lim:s.heap.NoLimit:=e0.mod.nolimit.keeps fun b o e=>(e0.bs b o e).1
 have hkind: ∀ y∈ps.zip us,scope.names.lookup y.1=some .local\/(scope.names.lookup y.1=some .cell/\((cellsFrom (s.heap.objs.size+1) scope.names []).lookup y.1).isSome=true):=fun⟨n,v⟩ hy=>by
  rcases S.par n (List.of_mem_zip hy).1 with q | q
  ·exact .inl q
  ·exact .inr ⟨q,PySem.W.cellsFrom_some _ _ _ (.inl q)⟩
 refine codeAny_call_function hr.depth (KX _ _ lk) rfl S.co S.gen rfl (PySem.W.codeRec_of KX hcd) (hb _ _ _ _ ?_)
 refine wpAny_newFunctionEnv_cells S.kind hkind fun env he s1 x=> ?_
 subst he
 refine⟨lim.keeps x.toInCall.keep,codeAny_func ?_⟩
 obtain⟨t,ht,hq⟩:=hbody A outer s H vs Q E (hr.deeper _) hsp
 have I:Inv (lX CX P w K mg base N qual scope f cdv A outer s H E) [] (start N vs) H s1:=iK S hr.hd e0 hl r x
 refine wpAny_mono (ht [] s1 (start N vs) H _ I hq) (fun fl s' hs=> ?_) fun e s' hs=>hs
 have fin: ∀ {σ':St} {H':Hp} {v:V} {u:Value},Inv (lX CX P w K mg base N qual scope f cdv A outer s H E) [] σ' H' s'->aP v u->Q v H'->CE outer P w H s Q u s':=
  fun {σ' H' v u} J rv q=>⟨v,H',J.os,J.bare,J.base,J.hok,rv,q⟩
 cases fl with
 | ret u=>
  obtain⟨v,σ',H',J,rv,q⟩:=hs
  exact fin J rv q
 | next=>
  obtain⟨σ',H',J,q⟩:=hs
  exact fin (v:=V.non) (u:=Value.none) J rfl q
 | brk=>
  obtain⟨_,_,_,q⟩:=hs
  exact az q
 | cont=>
  obtain⟨_,_,_,q⟩:=hs
  exact az q
section
variable {X:Cx} {x:Str} {p pos:Pos} {e:Expr} {es:List Expr} {t:TA} {id T:String} {r:List V->Hp->VK->Prop}
noncomputable def tCB (r:List V->Hp->VK->Prop) (t:TA):TE:=fun σ H Q=>t σ H fun vs H1=>r vs H1 Q
theorem pH (hc:jG X (.builtin id) r) (hg:Gl X x) (hm:X.mg x=none) (hv:bootBuiltins x=some (.builtin id)) (ha:PA X (e::es) t) (hn:x≠"__name__":=by decide) (hdb:(x==("__debug__":Str))=false:=by decide)
  (he:starEach (e::es) X.env=(false,eval e X.env)::starEach es X.env:=by rfl) (hpl:(backTo pos (starEach es X.env)).any (·.1)=false:=by rfl):PE X (.Call (.Name x p) (e::es) [] pos) (tCB r t):=by
 intro pins s σ H Q I h
 refine wpAny_Call_Name_kw (fR I hg hm hv ?_ hn hdb)
 exact PyProof.Rows.callWith_builtin1 (thn (ha pos pins s σ H _ I h) fun us s1 ⟨vs,H1,I1,r1,q1⟩=>hc pins s1 σ H1 vs us Q I1 r1 q1) he hpl
end
end L2
namespace HT
open PySem PyProof.Rows
section
open PySem.SeqAt
open PySem.AutoSeq1 (wpAny_loadPart')
open PySem.MeetsSeq PySem.MeetsSeq2 PySem.MeetsSeq3
end
section
variable {prog:Program} {w:World} {A:Around} {E:Value->Shared->Prop} {s:Shared}
theorem cat_tup {t b:Addr} {vs ws:List Value} {Q:Value->Shared->Prop} (ht:IsTup s.heap t vs.toArray) (hb:IsTup s.heap b ws.toArray) (hv:vs≠[])
  (h1:ws=[]->Q (.ref t) s) (h2:ws≠[]->Q (.ref s.heap.objs.size) { s with heap:=s.heap.push { cls:= .type "tuple",data:= .seq (vs++ws).toArray } })
  (hsz:vs.length+ws.length<=sizeLine):wpAny (model prog w) A (binaryOp .Add (.ref t) (.ref b)) Q E s:=by
 obtain⟨⟨cls,dd,data,sl⟩,ho,hc,n,hd⟩:=id ht
 obtain⟨⟨cls2,dd2,data2,sl2⟩,ho2,hc2,n2,hd2⟩:=id hb
 simp only at hc hd hc2 hd2
 subst hc hd hc2 hd2
 have e:vs.toArray++ws.toArray=(vs++ws).toArray:=by simp
 by_cases hw:ws=[]
 ·exact concat_meets ⟨_,ho,rfl⟩ ⟨_,ho2,rfl⟩ noFill_tuple_add seq_tuple_add PySem.F.slot_tuple_add PySem.F.entry_tuple_add (PySem.F.args_tuple_add_2 _ _)
   (tuple_addW1 t b vs.toArray ws.toArray n n2 dd dd2 sl sl2 (by simpa using hv) (by simp [hw])) ⟨ho,ho2,h1 hw⟩
 ·refine concat_meets ⟨_,ho,rfl⟩ ⟨_,ho2,rfl⟩ noFill_tuple_add seq_tuple_add PySem.F.slot_tuple_add PySem.F.entry_tuple_add (PySem.F.args_tuple_add_2 _ _)
   (tuple_addW2 t b vs.toArray ws.toArray n n2 dd dd2 sl sl2 (by simpa using hv) (by simpa using hw) (by rw [aw,aw];exact hsz)) ⟨ho,ho2, ?_⟩
  rw [e]
  exact h2 hw
noncomputable def sIx (n d:Nat):Option Int->Nat
 | none=>d
 | some v=>if v<0 then(v+(n:Int)).toNat else min v.toNat n
theorem aHg (n d:Nat) (hd:d<=n) (o:Option Int):sIx n d o<=n:=by
 cases o with
 | none=>exact hd
 | some v=>
  show(if v<0 then(v+(n:Int)).toNat else min v.toNat n)<=n
  by_cases hv:v<0
  ·rw [if_pos hv];omega
  ·rw [if_neg hv];exact Nat.min_le_right _ _
theorem sW (v:Int) (n d:Nat):(if v<0 then max (v+(n:Int)) 0 else min v (n:Int))=((sIx n d (some v):Nat):Int):=by
 show(if v<0 then max (v+(n:Int)) 0 else min v (n:Int))=(((if v<0 then(v+(n:Int)).toNat else min v.toNat n):Nat):Int)
 by_cases hv:v<0
 ·simp only [if_pos hv];omega
 ·simp only [if_neg hv];omega
theorem rL (lo hi:Option Int) (n:Nat):Builtin.Slice.sliceAdjust lo hi 1 (n:Int)=(((sIx n 0 lo:Nat):Int),((sIx n n hi:Nat):Int)):=by
 have h1: ¬ ((1:Int)<0):=by omega
 unfold Builtin.Slice.sliceAdjust
 simp only [h1,if_false]
 refine Prod.ext ?_ ?_
 ·cases lo with
  | none=>rfl
  | some v=>exact sW v n 0
 ·cases hi with
  | none=>rfl
  | some v=>exact sW v n n
theorem rM (i j:Nat):Builtin.Slice.slicePlaces (i:Int) (j:Int) 1=j - i:=by
 unfold Builtin.Slice.slicePlaces
 have h1:(1:Int) > 0:=by omega
 simp only [h1,if_true,Int.ediv_one]
 split<;>omega
theorem jR {v:Value} {o:Option Int} {Q:Option Int->Shared->Prop} (p:IsPart v o) (h:Q o s):wpAny (model prog w) A (Builtin.Slice.slicePartIndex v) Q E s:=by
 cases p with
 | none=>exact slicePart_none h
 | int i t=>exact slicePart_int h
theorem sliceApplied_gen {sl:Addr} {vl vu:Value} {lo hi:Option Int} {n:Nat} {Q:Int×Int×Nat->Shared->Prop} (hs:s.heap.IsSliceOf sl vl vu .none) (pl:IsPart vl lo) (pu:IsPart vu hi)
  (h:Q (((sIx n 0 lo:Nat):Int),1,sIx n n hi - sIx n 0 lo) s):wpAny (model prog w) A (Builtin.Slice.sliceApplied (.ref sl) (pure (n:Int))) Q E s:=by
 obtain⟨os,hos,hcs,hds⟩:=id hs
 unfold Builtin.Slice.sliceApplied Builtin.Slice.sliceFields
 refine aa (aa (wpAny_field hos hds (x:=vl) rfl (aa (wpAny_field hos hds (x:=vu) rfl (aa (wpAny_field hos hds (x:= .none) rfl (ae ?_)))))))
 refine aa (slicePart_none ?_)
 show wpAny _ _ (if((1:Int)==0)=true then _ else _) _ _ s
 rw [if_neg (by decide)]
 refine aa (jR pl (aa (jR pu (aa (ae ?_)))))
 show wpAny _ _ (match Builtin.Slice.sliceAdjust lo hi 1 (n:Int) with | (lo,hi)=>pure (lo,(1:Int),Builtin.Slice.slicePlaces lo hi 1)) _ _ s
 rw [rL lo hi n]
 show wpAny _ _ (pure (((sIx n 0 lo:Nat):Int),(1:Int),Builtin.Slice.slicePlaces ((sIx n 0 lo:Nat):Int) ((sIx n n hi:Nat):Int) 1)) _ _ s
 rw [rM]
 exact ae h
theorem xR (xs:Array Value) (i k:Nat):((List.range k).filterMap fun(m:Nat)=>xs[((i:Int)+(m:Int) * 1).toNat]?).toArray=((xs.toList.drop i).take k).toArray:=by
 have e:(fun(m:Nat)=>xs[((i:Int)+(m:Int) * 1).toNat]?)=fun m=>xs[i+m]? :=by
  funext m
  have:((i:Int)+(m:Int) * 1).toNat=i+m:=by omega
  rw [this]
 rw [e]
 have:=pick_run xs i k
 rw [List.filterMap_map] at this
 have e2:((fun x=>xs[x]?) ∘ fun x=>i+x)=fun m=>xs[i+m]? :=rfl
 rw [e2] at this
 rw [this]
theorem getItem_tuple_cut {t sl:Addr} {items:Array Value} {vl vu:Value} {lo hi:Option Int} {Q:Value->Shared->Prop} (ht:IsTup s.heap t items) (hs:s.heap.IsSliceOf sl vl vu .none) (pl:IsPart vl lo) (pu:IsPart vu hi)
  (hw: ¬ (sIx items.size 0 lo=0/\sIx items.size items.size hi=items.size))
  (h:Q (.ref s.heap.objs.size) { s with heap:=s.heap.push { cls:= .type "tuple",data:= .seq ((items.toList.drop (sIx items.size 0 lo)).take (sIx items.size items.size hi - sIx items.size 0 lo)).toArray } })
  (hsz:items.size<=sizeLine):wpAny (model prog w) A (getItem (.ref t) (.ref sl)) Q E s:=by
 have htake:sizeOk (.seq ((items.toList.drop (sIx items.size 0 lo)).take (sIx items.size items.size hi - sIx items.size 0 lo)).toArray):=by
  show((items.toList.drop (sIx items.size 0 lo)).take (sIx items.size items.size hi - sIx items.size 0 lo)).toArray.size<=sizeLine
  rw [aw,List.length_take,List.length_drop,Array.length_toList]
  omega
 have hj:sIx items.size items.size hi<=items.size:=aHg _ _ (aj _) hi
 obtain⟨os,hos,hcs,hds⟩:=id hs
 have hTs:s.TypeIs (.ref sl) "slice":=⟨os,hos,hcs⟩
 unfold getItem
 try with_reducible refine wpAny_holding ?_
 first | refine aa (ae ?_) | skip
 refine aa (wpAny_sequenceKey ht.typeIs (by decide) ?_)
 refine aa (wpAny_callSpecial?_slot (name:=Str.ofString "__getitem__") ht.typeIs PyProof.Rows.slot_tuple_getitem
  (wpAny_call_entry PyProof.Rows.slot_tuple_getitem ht.typeIs entry_tuple_getitem ?_ (args_tuple_getitem _ _)))
 show wpAny _ _ (Builtin.Tuple.tupleItemsOf (.ref t) >>= _) _ _ s
 refine aa (tupleItemsOf_ ht ?_)
 refine aa (wpAny_typeOf hTs ?_)
 rw [if_pos (by decide)]
 refine aa (sliceApplied_gen hs pl pu ?_)
 have hno: ¬ ((((sIx items.size 0 lo:Nat):Int)==0&&(1:Int)==1&&(sIx items.size items.size hi - sIx items.size 0 lo)==items.size)=true):=by
  intro q
  rw [av,av] at q
  have q1:((sIx items.size 0 lo:Nat):Int)=0:=eq_of_beq q.1.1
  have q2:sIx items.size items.size hi - sIx items.size 0 lo=items.size:=eq_of_beq q.2
  exact hw ⟨by omega,by omega⟩
 show wpAny _ _ (if(((sIx items.size 0 lo:Nat):Int)==0&&(1:Int)==1&&(sIx items.size items.size hi - sIx items.size 0 lo)==items.size)=true then _ else _) _ _ s
 rw [if_neg hno,xR]
 first
  | exact aa (m:=Builtin.Tuple.tupleExact _) (wpAny_newObj_type (ae ⟨_,rfl,ae h⟩) htake)
  | exact aa (m:=Builtin.Tuple.tupleExact _) (wpAny_newObj_type (aa (ae (ae ⟨_,rfl,ae h⟩))) htake)
  | exact aa (aa (m:=Builtin.Tuple.tupleExact _) (wpAny_newObj_type (ae (ae ⟨_,rfl,ae h⟩)) htake))
  | exact aa (aa (m:=Builtin.Tuple.tupleExact _) (wpAny_newObj_type (ae ⟨_,rfl,ae h⟩) htake))
end
end HT
namespace L2
open PySem PySem.Spec PyProof.Rows
abbrev TO:=St->Hp->(Option Int->Hp->Prop)->Prop
section
variable {X:Cx} {e:Expr} {te:TE} {lo hi:Option Expr} {tl th:TO} {pos p2:Pos}
def SlR (X:Cx) (r:V->Option Int->Option Int->Hp->VK->Prop):Prop:=
 ∀ (pins:List (Addr×Obj)) (s:Shared) (σ:St) (H:Hp) (x:V) (v vl vu:Value) (lo hi:Option Int) (sl:Addr) (Q:VK),Inv X pins σ H s->aP x v->s.heap.IsSliceOf sl vl vu .none->IsPart vl lo->IsPart vu hi->r x lo hi H Q->
  ∃ T id,typeLookup (.type T) "__getitem__"=pure (some (.builtin id))/\s.TypeIs v T/\wpAny (model X.prog X.w) X.A (getItem v (.ref sl)) (EP X pins σ Q) X.xe s
noncomputable def pI (xs:List V) (lo hi:Option Int):List V:=(xs.drop (HT.sIx xs.length 0 lo)).take (HT.sIx xs.length xs.length hi - HT.sIx xs.length 0 lo)
theorem iL (xs:List V) (lo hi:Option Int):(pI xs lo hi).length<=xs.length:=by
 unfold pI
 rw [List.length_take,List.length_drop]
 omega
noncomputable def aOj (K:PySem.W.Frag):V->Option Int->Option Int->Hp->VK->Prop:=fun x lo hi H Q=> ∃ a xs,x= .ref a/\SqT K H a xs/\
 ¬ (HT.sIx xs.length 0 lo=0/\HT.sIx xs.length xs.length hi=xs.length)/\ ∀ p,H p=none->Q (.ref p) (upd H p (.tup (pI xs lo hi)))
theorem aHh:SlR X (aOj X.K):=by
 intro pins s σ H x v vl vu lo hi sl Q I rx hs pl pu h
 obtain⟨a,xs,rfl,hx,hw,q⟩:=h
 cases rx
 obtain⟨its,r,ht,hz⟩:=I.tuple hx
 have hlen:its.toArray.size=xs.length:=by rw [aw];exact r.length.symm
 refine⟨"tuple",_,PyProof.Rows.slot_tuple_getitem.lookup,ht.typeIs, ?_⟩
 refine HT.getItem_tuple_cut ht hs pl pu (by rw [hlen];exact hw) ?_ (by rw [hlen];exact hz)
 rw [hlen]
 refine⟨.ref s.heap.objs.size,_,I.laid (t':=s.toks) (o:= .tup (pI xs lo hi)) (fun b ob q=>af _ q) (aj _) ?_,rfl,q _ (I.hok.fresh (aj _))⟩
 exact⟨Nat.le_trans (iL xs lo hi) hz,_,(r.drop (HT.sIx xs.length 0 lo)).take (HT.sIx xs.length xs.length hi - HT.sIx xs.length 0 lo),IsTup.new _ _,⟨_,ag _ rfl,rfl⟩⟩
noncomputable def aLi (K:PySem.W.Frag):R2:=fun x y H Q=> ∃ a b xs ys,x= .ref a/\y= .ref b/\SqT K H a xs/\SqT K H b ys/\xs≠[]/\xs.length+ys.length<=sizeLine/\
 (ys=[]->Q (.ref a) H)/\(ys≠[]-> ∀ p,H p=none->Q (.ref p) (upd H p (.tup (xs++ys))))
theorem aY.nil_iff {xs:List V} {us:List Value} (r:aY xs us):us=[]↔xs=[]:=by
 cases r with
 | nil=>simp
 | cons _ _=>simp
theorem aCg:OpR X (binaryOp .Add) (aLi X.K):=by
 intro pins s σ H x y v u Q I rx ry h
 obtain⟨a,b,xs,ys,rfl,rfl,ha,hb,hx,hz,q1,q2⟩:=h
 cases rx
 cases ry
 obtain⟨its,r1,p1,_⟩:=I.tuple ha
 obtain⟨its2,r2,p2,_⟩:=I.tuple hb
 refine HT.cat_tup p1 p2 (fun z=>hx (r1.nil_iff.mp z)) (fun z=>⟨.ref a,H,I,rfl,q1 (r2.nil_iff.mp z)⟩) (fun z=> ?_) (by rw [<-r1.length, <-r2.length];exact hz)
 refine⟨.ref s.heap.objs.size,_,I.laid (t':=s.toks) (o:= .tup (xs++ys)) (fun b ob q=>af _ q) (aj _) ?_,rfl,q2 (fun w=>z (r2.nil_iff.mpr w)) _ (I.hok.fresh (aj _))⟩
 exact⟨by rw [bo];exact hz,_,r1.append r2,IsTup.new _ _,⟨_,ag _ rfl,rfl⟩⟩
end
noncomputable def ixN (n:Nat) (i:Int):Option Nat:=if 0<=i then(if i<n then some i.toNat else none) else if -(n:Int)<=i then some (i+n).toNat else none
noncomputable def atI {α:Type} (xs:List α) (i:Int):Option α:=(ixN xs.length i).bind fun j=>xs[j]?
theorem sX {n:Nat} {i:Int} {j:Nat} (h:ixN n i=some j):seqIndex? i n=some j/\j<n/\ -(n:Int)<=i/\i<n:=by
 unfold ixN at h
 by_cases h0:0<=i
 ·rw [if_pos h0] at h
  by_cases h1:i<n
  ·rw [if_pos h1] at h
   have e:i.toNat=j:=Option.some.inj h
   exact⟨by rw [seqIndex_of h0 h1,e],by omega,by omega,h1⟩
  ·rw [if_neg h1] at h;cases h
 ·rw [if_neg h0] at h
  by_cases h1: -(n:Int)<=i
  ·rw [if_pos h1] at h
   have e:(i+n).toNat=j:=Option.some.inj h
   exact⟨by rw [seqIndex_neg (by omega) h1,e],by omega,h1,by omega⟩
  ·rw [if_neg h1] at h;cases h
theorem nT {α:Type} {xs:List α} {i:Int} {v:α} (h:atI xs i=some v): ∃ j,seqIndex? i xs.length=some j/\xs[j]? =some v/\j<xs.length/\ -(xs.length:Int)<=i/\i<xs.length:=by
 unfold atI at h
 cases e:ixN xs.length i with
 | none=>rw [e] at h;cases h
 | some j=>
  rw [e] at h
  obtain⟨h1,h2,h3,h4⟩:=sX e
  exact⟨j,h1,h,h2,h3,h4⟩
def sY (b:Expr):Prop:= ∀ o i,subscripted b false o i=operate [o,i] (getItem o i)
def IxR (X:Cx) (r:R2):Prop:=
 ∀ (value slice:Expr) (pins:List (Addr×Obj)) (s:Shared) (σ:St) (H:Hp) (x y:V) (v u:Value) (Q:VK),Inv X pins σ H s->aP x v->aP y u->r x y H Q->
  subscripted slice false v u=operate [v,u] (getItem v u)->wpAny (model X.prog X.w) X.A (subscriptTail value slice v u) (EP X pins σ Q) X.xe s
def MtR (X:Cx) (id:String) (r:V->List V->Hp->VK->Prop):Prop:=
 ∀ (pins:List (Addr×Obj)) (s:Shared) (σ:St) (H:Hp) (x:V) (xs:List V) (v:Value) (us:List Value) (Q:VK),Inv X pins σ H s->aP x v->aY xs us->r x xs H Q->
  wpAny (model X.prog X.w) X.A (call (.builtin id) (v::us)) (EP X pins σ Q) X.xe s
section
variable {X:Cx} {a b:Expr} {ta tb:TE} {pos:Pos}
noncomputable def aLj (K:PySem.W.Frag):R2:=fun x y H Q=> ∃ p xs i v,x= .ref p/\y= .int i/\SqL K H p xs/\atI xs i=some v/\Q v H
noncomputable def aNg (K:PySem.W.Frag):R2:=fun x y H Q=> ∃ p xs i v,x= .ref p/\y= .int i/\SqT K H p xs/\atI xs i=some v/\Q v H
noncomputable def aOk:R2:=fun x y H Q=> ∃ z i c,x= .str z/\y= .int i/\z.length<=sizeLine/\atI z.cps.toList i=some c/\Q (.str ⟨#[c]⟩) H
theorem aCh:IxR X (aLj X.K):=by
 intro value slice pins s σ H x y v u Q I rx ry h hs
 obtain⟨p,xs,i,z,rfl,rfl,hq,he,q⟩:=h
 cases rx
 obtain⟨t,rfl⟩:=ry
 obtain⟨its,r,pl,hz⟩:=I.list hq
 obtain⟨j,h1,h2,h3,h4,h5⟩:=nT he
 obtain⟨w,ew,rw'⟩:=r.get h2
 have hl:=r.length
 have hn:=jQ
 have fin:EP X pins σ Q w s:=⟨z,H,I,rw',q⟩
 by_cases h0:0<=i
 ·have hj:i.toNat=j:=by
   rw [seqIndex_of h0 h5] at h1
   exact Option.some.inj h1
  exact item_listR pl.isList h0 (by omega) (by rw [hj];simpa using ew) fin hs
 ·have hj:(i+(its.toArray.size:Int)).toNat=j:=by
   rw [seqIndex_neg (by omega) h4] at h1
   rw [aw, <-hl]
   exact Option.some.inj h1
  exact subscriptTail_builtinR (x:=w) pl.isList.typeIs slot_list_getitem.lookup
   (wpAny_getItem_list_neg (Q:=fun r s'=>r=w/\EP X pins σ Q r s') pl.isList (by omega) (by rw [aw]<;>omega) (by omega) (by rw [hj];simpa using ew) ⟨rfl,fin⟩) hs
theorem aHi:IxR X (aNg X.K):=by
 intro value slice pins s σ H x y v u Q I rx ry h hs
 obtain⟨p,xs,i,z,rfl,rfl,hq,he,q⟩:=h
 cases rx
 obtain⟨t,rfl⟩:=ry
 obtain⟨its,r,pl,hz⟩:=I.tuple hq
 obtain⟨j,h1,h2,h3,h4,h5⟩:=nT he
 obtain⟨w,ew,rw'⟩:=r.get h2
 have hl:=r.length
 have hn:=jQ
 have fin:EP X pins σ Q w s:=⟨z,H,I,rw',q⟩
 exact subscriptTail_builtinR (x:=w) pl.typeIs slot_tuple_getitem.lookup
  (getItem_tuple (j:=j) (Q:=fun r s'=>r=w/\EP X pins σ Q r s') pl (by omega) (by omega) (by rw [aw, <-hl];exact h1) (by simpa using ew) ⟨rfl,fin⟩) hs
noncomputable def rIx (K:PySem.W.Frag):R2:=fun x y H Q=>aLj K x y H Q\/aNg K x y H Q\/aOk x y H Q
theorem rN (its:List Value) (n j:Nat) (u:Value):Obj.mapSeq (·.setIfInBounds j u) { cls:= .type "list",data:= .seq its.toArray n }={ cls:= .type "list",data:= .seq (its.set j u).toArray n }:=by
 simp [Obj.mapSeq]
theorem Inv.lst {pins:List (Addr×Obj)} {σ:St} {H:Hp} {s:Shared} {p:Addr} {xs:List V} (I:Inv X pins σ H s) (h:H p=some (.lst xs)):
  ∃ (its:List Value) (n:Nat),aY xs its/\s.heap.get? p=some { cls:= .type "list",data:= .seq its.toArray n }/\xs.length<=sizeLine:=by
 obtain⟨z,its,n,r,e⟩:=I.hok p _ h
 exact⟨its,n,r,e,z⟩
theorem Inv.lstUpd {pins:List (Addr×Obj)} {σ:St} {H:Hp} {s:Shared} {p:Addr} {xs ys:List V} {its its':List Value} {n n':Nat} {f:Obj->Obj} (I:Inv X pins σ H s) (h:H p=some (.lst xs))
  (ho:s.heap.get? p=some { cls:= .type "list",data:= .seq its.toArray n }) (hf:f { cls:= .type "list",data:= .seq its.toArray n }={ cls:= .type "list",data:= .seq its'.toArray n' }) (r:aY ys its') (hz:ys.length<=sizeLine) (t:Nat):
  Inv X pins σ (upd H p (.lst ys)) { s with heap:=s.heap.update p f,toks:=t }:=by
 have e:(s.heap.update p f).get? p=some { cls:= .type "list",data:= .seq its'.toArray n' }:=by
  rw [Heap.get?_update_self f ho (by rw [hf]<;>rfl),hf]
 refine I.write (x:=p) (e:=p) (by rw [h];trivial) (.inl rfl) (fun b u hb q=>(Heap.get?_update_other _ _ (Ne.symm hb)).trans q) ⟨_,e⟩ ?_
 exact⟨hz,its',n',r,e⟩
noncomputable def aHj:V->V->V->Hp->(Hp->Prop)->Prop:=fun o i v H Q=> ∃ p xs k j,o= .ref p/\i= .int k/\H p=some (.lst xs)/\ixN xs.length k=some j/\Q (upd H p (.lst (xs.set j v)))
theorem pJ:aGw X aHj:=by
 intro pins s σ H o i v ov iv u Q I ro ri rv h
 obtain⟨p,xs,k,j,rfl,rfl,hp,hj,q⟩:=h
 cases ro
 obtain⟨t,rfl⟩:=ri
 obtain⟨its,n,r,ho,hz⟩:=I.lst hp
 obtain⟨h1,h2,h3,h4⟩:=sX hj
 have hl:=r.length
 have hn:=jQ
 have I':Inv X pins σ (upd H p (.lst (xs.set j v))) { s with heap:=s.heap.update p (Obj.mapSeq (·.setIfInBounds j u)) }:=
  I.lstUpd hp ho (rN its n j u) (r.set rv j) (by rw [List.length_set];exact hz) s.toks
 by_cases h0:0<=k
 ·have hk:k.toNat=j:=by
   rw [seqIndex_of h0 h4] at h1
   exact Option.some.inj h1
  exact PySem.W.ki_setAt ho h0 (by omega) (by rw [aw, <-hl];exact h4) (by rw [hk];exact⟨_,I',q⟩)
 ·have hk:(k+(its.toArray.size:Int)).toNat=j:=by
   rw [seqIndex_neg (by omega) h3] at h1
   rw [aw, <-hl]
   exact Option.some.inj h1
  exact PySem.W.ki_setBack ho (by omega) (by rw [aw, <-hl];exact h3) (by omega) (by rw [hk];exact⟨_,I',q⟩)
theorem lY (lo hi:Option Int) (n:Nat):(sliceBounds lo hi none n).1=((HT.sIx n 0 lo:Nat):Int)/\(sliceBounds lo hi none n).2.1=((HT.sIx n n hi:Nat):Int)/\(sliceBounds lo hi none n).2.2=1:=by
 refine⟨?_, ?_,rfl⟩
 ·cases lo with
  | none=>simp [sliceBounds,HT.sIx]
  | some i=>
   simp only [sliceBounds,HT.sIx,Option.getD_none,show(1:Int) > 0 by decide,if_true]
   by_cases h:i<0
   ·simp only [h,if_true]<;>omega
   ·simp only [h,if_false]<;>omega
 ·cases hi with
  | none=>simp [sliceBounds,HT.sIx]
  | some i=>
   simp only [sliceBounds,HT.sIx,Option.getD_none,show(1:Int) > 0 by decide,if_true]
   by_cases h:i<0
   ·simp only [h,if_true]<;>omega
   ·simp only [h,if_false]<;>omega
theorem kJ (its:List Value) (lo hi:Option Int):slicePick its.toArray lo hi none=((its.drop (HT.sIx its.length 0 lo)).take (HT.sIx its.length its.length hi - HT.sIx its.length 0 lo)).toArray:=by
 obtain⟨h1,h2,h3⟩:=lY lo hi its.toArray.size
 unfold slicePick
 rw [h1,h2,h3]
 simp only [sliceRange_one,pick_run,aw]<;>rfl
noncomputable def aOl (K:PySem.W.Frag):V->Option Int->Option Int->Hp->VK->Prop:=fun x lo hi H Q=> ∃ a xs,x= .ref a/\SqL K H a xs/\ ∀ p,H p=none->Q (.ref p) (upd H p (.lst (pI xs lo hi)))
theorem aCi:SlR X (aOl X.K):=by
 intro pins s σ H x v vl vu lo hi sl Q I rx hs pl pu h
 obtain⟨a,xs,rfl,hx,q⟩:=h
 cases rx
 obtain⟨its,r,ht,hz⟩:=I.list hx
 have hlen:=r.length
 refine⟨"list",_,slot_list_getitem.lookup,ht.isList.typeIs, ?_⟩
 refine wpAny_getItem_list_slice ht.isList hs pl pu .none (by simp) ?_ (by rw [aw]<;>omega)
 rw [kJ, <-hlen]
 refine⟨.ref s.heap.objs.size,_,I.laid (t':=s.toks) (o:= .lst (pI xs lo hi)) (fun b ob q=>af _ q) (aj _) ?_,rfl,q _ (I.hok.fresh (aj _))⟩
 exact⟨Nat.le_trans (iL xs lo hi) hz,_,0,(r.drop (HT.sIx xs.length 0 lo)).take (HT.sIx xs.length xs.length hi - HT.sIx xs.length 0 lo),ag _ rfl⟩
theorem lZ:jG X (.builtin "len") (fun xs H Q=> ∃ p ys,xs=[.ref p]/\(SqL X.K H p ys\/SqT X.K H p ys)/\Q (.int ys.length) H):=by
 intro pins s σ H xs us Q I r h
 obtain⟨p,ys,rfl,hq,q⟩:=h
 obtain⟨u,rfl,rx⟩:=lQ r
 cases rx
 have hn:=jQ
 rcases hq with hq | hq
 ·obtain⟨its,r',pl,hz⟩:=I.list hq
  have hlen:=r'.length
  exact Calls.call_len_list pl.isList (by simp only [aw]<;>omega) ⟨.int ys.length,H,I.tok _,⟨s.toks+1,by rw [aw,hlen]⟩,q⟩
 ·obtain⟨its,r',pl,hz⟩:=I.tuple hq
  have hlen:=r'.length
  exact len_tuple pl (by simp only [aw]<;>omega) ⟨.int ys.length,H,I.tok _,⟨s.toks+1,by rw [aw,hlen]⟩,q⟩
theorem l4:jG X (.builtin "len") (fun xs H Q=> ∃ z,xs=[.str z]/\z.length<=sizeLine/\Q (.int z.length) H):=by
 intro pins s σ H xs us Q I r h
 obtain⟨z,rfl,hz,q⟩:=h
 obtain⟨u,rfl,t,rfl⟩:=lQ r
 have hn:=jQ
 exact len_str (by omega) ⟨.int z.length,H,I.tok _,⟨_,rfl⟩,q⟩
theorem l6:jG X (.type "list") (fun xs H Q=> ∃ p ys,xs=[.ref p]/\(SqL X.K H p ys\/SqT X.K H p ys)/\ ∀ l,H l=none->Q (.ref l) (upd H l (.lst ys))):=by
 intro pins s σ H xs us Q I r h
 obtain⟨p,ys,rfl,hq,q⟩:=h
 obtain⟨u,rfl,rx⟩:=lQ r
 cases rx
 have fin: ∀ (its:List Value),aY ys its->ys.length<=sizeLine-> ∀ (h':Heap) (c':Nat),(∀ b o',s.heap.get? b=some o'->h'.get? b=some o')->
   h'.get? s.heap.objs.size=some { cls:= .type "list",dict:=none,data:= .seq its.toArray c',slots:= #[] }->EP X pins σ Q (.ref s.heap.objs.size) { s with heap:=h' }:=fun its r' hz h' c' kp e=>
  ⟨.ref s.heap.objs.size,_,I.laid (t':=s.toks) kp (aj _) (show ObjOk X.prog X.w _ h' _ (.lst ys) from⟨hz,its,c',r',e⟩),rfl,q _ (I.hok.fresh (aj _))⟩
 rcases hq with hq | hq
 ·obtain⟨its,r',pl,hz⟩:=I.list hq
  have hlen:=r'.length
  obtain⟨o,ho,hc,n,hd⟩:=pl.isList
  exact call_list_seq p (.inl rfl) ho hc hd (fun h' c' kp e=>fin its r' hz h' c' kp e) (by simp only [aw]<;>omega)
 ·obtain⟨its,r',pl,hz⟩:=I.tuple hq
  have hlen:=r'.length
  obtain⟨o,ho,hc,n,hd⟩:=pl
  exact call_list_seq p (.inr rfl) ho hc hd (fun h' c' kp e=>fin its r' hz h' c' kp e) (by simp only [aw]<;>omega)
theorem fS:jG X (.type "tuple") (fun xs H Q=> ∃ p ys,xs=[.ref p]/\((SqL X.K H p ys/\ ∀ l,H l=none->Q (.ref l) (upd H l (.tup ys)))\/(SqT X.K H p ys/\Q (.ref p) H))):=by
 intro pins s σ H xs us Q I r h
 obtain⟨p,ys,rfl,h⟩:=h
 obtain⟨u,rfl,rx⟩:=lQ r
 cases rx
 rcases h with ⟨hq,q⟩ | ⟨hq,q⟩
 ·obtain⟨its,r',pl,hz⟩:=I.list hq
  have hlen:=r'.length
  refine call_tuple_list pl.isList (fun h' kp=> ?_) (by simp only [aw]<;>omega)
  have I1:Inv X pins σ H { s with heap:=h' }:=I.kept (t':=s.toks) kp
  have I2:Inv X pins σ (upd H h'.objs.size (.tup ys)) { s with heap:=h'.push { cls:= .type "tuple",data:= .seq its.toArray } }:=
   I1.laid (t':=s.toks) (fun b o e=>af _ e) (aj _) (show ObjOk X.prog X.w _ _ _ (.tup ys) from⟨hz,its,r',IsTup.new _ _,⟨_,ag _ rfl,rfl⟩⟩)
  exact⟨.ref h'.objs.size,_,I2,rfl,q _ (I1.hok.fresh (aj _))⟩
 ·obtain⟨its,r',pl,hz⟩:=I.tuple hq
  exact call_tuple_same pl ⟨.ref p,H,I,rfl,q⟩
def tyV (K:PySem.W.Frag) (T:String) (x:V) (H:Hp):Prop:=match x with
 | .str _=>T="str"
 | .int _=>T="int"
 | .ref p=>(T="list"/\ ∃ xs,SqL K H p xs)\/(T="tuple"/\ ∃ o,K.lookup p=some o/\o.cls= .type "tuple"/\o.dict=none)\/
   (T="dict"/\((∃ kvs,H p=some (.dK kvs))\/ ∃ kvs,H p=some (.dT kvs)))\/(T="set"/\ ∃ S n,H p=some (.set S n))
 | _=>False
theorem sZ {pins:List (Addr×Obj)} {σ:St} {H:Hp} {s:Shared} {T:String} {x:V} {v:Value} (I:Inv X pins σ H s) (r:aP x v) (ty:tyV X.K T x H):
  s.TypeIs v T/\ ∀ a,v= .ref a-> ∃ ob,s.heap.get? a=some ob/\ob.dict=none:=by
 cases x with
 | str z=>
  obtain⟨t,rfl⟩:=r
  cases (show T="str" from ty)
  exact⟨typeIs_str s z t,fun _ e=>nomatch e⟩
 | int i=>
  obtain⟨t,rfl⟩:=r
  cases (show T="int" from ty)
  exact⟨typeIs_int s i t,fun _ e=>nomatch e⟩
 | ref p=>
  cases r
  rcases ty with ⟨rfl,xs,hq⟩ | ⟨rfl,o,hk,hc,hd⟩ | ⟨rfl,hk⟩ | ⟨rfl,S,n,hk⟩
  ·obtain⟨its,_,pl,_⟩:=I.list hq
   refine⟨pl.isList.typeIs,fun a e=> ?_⟩
   cases e
   obtain⟨o,n,e,c,hd,_⟩:=pl
   exact⟨o,e,hd⟩
  ·refine⟨⟨o,I.kIn p o hk,hc⟩,fun a e=> ?_⟩
   cases e
   exact⟨o,I.kIn _ o hk,hd⟩
  ·have z: ∃ o,s.heap.get? p=some o/\o.ExactDict:=by
    rcases hk with ⟨kvs,hk⟩ | ⟨kvs,hk⟩
    ·obtain⟨_,_,_,_,o,_,_,e,ex,_⟩:=I.hok p _ hk
     exact⟨o,e,ex⟩
    ·obtain⟨_,_,_,_,o,_,_,e,ex,_⟩:=I.hok p _ hk
     exact⟨o,e,ex⟩
   obtain⟨o,e,ex⟩:=z
   refine⟨⟨o,e,ex.1⟩,fun a e2=> ?_⟩
   cases e2
   exact⟨o,e,ex.2.1⟩
  ·obtain⟨o,_,_,_,e,ex,_⟩:=I.hok p _ hk
   refine⟨⟨o,e,ex.1⟩,fun a e2=> ?_⟩
   cases e2
   exact⟨o,e,ex.2.1⟩
 | _=>exact az ty
noncomputable def aNh (K:PySem.W.Frag) (T:String) (r:V->List V->Hp->VK->Prop) (to:TE):TE:=fun σ H Q=>to σ H fun x H1=>tyV K T x H1/\r x [] H1 Q
noncomputable def tBM (K:PySem.W.Frag) (T:String) (r:V->List V->Hp->VK->Prop) (to:TE) (t:TA):TE:=fun σ H Q=>to σ H fun x H1=>tyV K T x H1/\t σ H1 fun xs H2=>r x xs H2 Q
variable {o e:Expr} {es:List Expr} {to:TE} {t:TA} {name:Str} {apos cpos:Pos} {T id:String} {r:V->List V->Hp->VK->Prop}
theorem aHk (pa:PlainAttrs T) (slot:Slot T name id) (hty:typeOf (.builtin id)=pure (.type "method_descriptor")) (hm:MtR X id r) (ho:PE X o to)
  (hbase:attributeBase o name X.env (eval o X.env)=eval o X.env:=by rfl) (hline:(apos.endLine==cpos.line)=true:=by rfl):PE X (.Call (.Attribute o name apos) [] [] cpos) (aNh X.K T r to):=by
 intro pins s σ H Q I h
 refine wpAny_Call_method0_late hbase hline (thn (ho pins s σ H _ I h) fun v s1 hz_=> ?_)
 obtain⟨x,H1,I1,r1,ty,q1⟩:=hz_
 obtain⟨h1,h2⟩:=sZ I1 r1 ty
 exact⟨T,id,pa,slot,hty,h1,h2,Calls.callWith_builtin rfl (PySem.evalArgs_none (hm pins s1 σ H1 x [] v [] Q I1 r1 .nil q1))⟩
theorem aCj (pa:PlainAttrs T) (slot:Slot T name id) (hty:typeOf (.builtin id)=pure (.type "method_descriptor")) (hm:MtR X id r) (ho:PE X o to) (ha:PA X (e::es) t)
  (hbase:attributeBase o name X.env (eval o X.env)=eval o X.env:=by rfl)
  (hfew:((backTo cpos (starEach (e::es) X.env)).all (fun x=> !x.1)&&(backToKw cpos (keywordEach [] X.env)).all (fun x=>x.1.isSome)
   &&decide ((e::es).length+([]:List Keyword).length+(if([]:List Keyword).isEmpty then 0 else 1)<30))=true:=by rfl)
  (hline:(apos.endLine==cpos.line)=true:=by rfl) (hs:starEach (e::es) X.env=(false,eval e X.env)::starEach es X.env:=by rfl) (hplain:(backTo cpos (starEach es X.env)).any (·.1)=false:=by rfl):
  PE X (.Call (.Attribute o name apos) (e::es) [] cpos) (tBM X.K T r to t):=by
 intro pins s σ H Q I h
 refine wpAny_Call_method_late hbase hfew hline rfl (thn (ho pins s σ H _ I h) fun v s1 hz_=> ?_)
 obtain⟨x,H1,I1,r1,ty,q1⟩:=hz_
 obtain⟨h1,h2⟩:=sZ I1 r1 ty
 refine⟨T,id,pa,slot,hty,h1,h2, ?_⟩
 have hA:=ha cpos pins s1 σ H1 _ I1 q1
 rw [hs] at hA ⊢
 refine Calls.callWith_builtin (by show(false||(backTo cpos (starEach es X.env)).any (·.1))=false;rw [hplain]<;>rfl) (Calls.evalArgs_plain ?_)
 exact thn hA fun us s2 ⟨vs,H2,I2,r2,q2⟩=>hm pins s2 σ H2 x vs v us Q I2 r1 r2 q2
end
def MtM (X:Cx) (id:String) (r:V->List V->Hp->VK->Prop):Prop:=
 ∀ (pins:List (Addr×Obj)) (s:Shared) (σ:St) (H:Hp) (x:V) (xs:List V) (v:Value) (us:List Value) (Q:VK),Inv X pins σ H s->aP x v->aY xs us->r x xs H Q->
  wpAny (model X.prog X.w) X.A (call (.builtin id) (v::us)) (EP X pins σ Q) X.xe s
theorem aY.one: ∀ {x:V} {us:List Value},aY [x] us-> ∃ u,us=[u]/\aP x u
 | _,_, .cons r .nil=>⟨_,rfl,r⟩
theorem aY.two: ∀ {x y:V} {us:List Value},aY [x,y] us-> ∃ u v,us=[u,v]/\aP x u/\aP y v
 | _,_,_, .cons r (.cons q .nil)=>⟨_,_,rfl,r,q⟩
theorem aY.zero: ∀ {us:List Value},aY [] us->us=[]
 | _, .nil=>rfl
theorem aY.dropLast {xs:List V} {us:List Value} (h:aY xs us):aY xs.dropLast us.dropLast:=by
 induction h with
 | nil=>exact .nil
 | cons r t ih=>
  cases t with
  | nil=>exact .nil
  | cons q t'=>exact .cons r ih
theorem aY.rep {xs:List V} {us:List Value} (h:aY xs us): ∀ k:Nat,aY (ak k xs).flatten (ak k us).flatten
 | 0=> .nil
 | k+1=>by
  rw [List.replicate_succ,List.replicate_succ,List.flatten_cons,List.flatten_cons]
  exact aY.append h (aY.rep h k)
theorem rO {α:Type} (l:List α):l.eraseIdx (l.length - 1)=l.dropLast:=by
 induction l with
 | nil=>rfl
 | cons a r ih=>
  cases r with
  | nil=>rfl
  | cons b r=>
   have e:(a::b::r).length - 1=((b::r).length - 1)+1:=by
    have h1:(a::b::r).length=r.length+2:=rfl
    have h2:(b::r).length=r.length+1:=rfl
    omega
   rw [e,List.eraseIdx_cons_succ,ih]
   all_goals rfl
theorem l7 (its:List Value): ∀ (k:Nat) (acc:List Value),
  List.foldl (fun x1 x2=>x1++x2) acc.toArray (ak k its.toArray)=(acc++(ak k its).flatten).toArray
 | 0,acc=>by simp
 | k+1,acc=>by
  have e:acc.toArray++its.toArray=(acc++its).toArray:=by simp
  have e2:(acc++its)++(ak k its).flatten=acc++(ak (k+1) its).flatten:=by
   rw [List.replicate_succ,List.flatten_cons,List.append_assoc]
  rw [<-e2, <-l7 its k (acc++its), <-e,List.replicate_succ,List.foldl_cons]
section
variable {X:Cx} {pins:List (Addr×Obj)} {σ:St} {H:Hp} {s:Shared} {l b:Addr} {xs ys zs:List V}
theorem Inv.lset {its its':List Value} {n:Nat} {f:Array Value->Array Value} {t':Nat} (I:Inv X pins σ H s) (hH:H l=some (.lst xs))
  (e:s.heap.get? l=some { cls:= .type "list",data:= .seq its.toArray n }) (hf:f its.toArray=its'.toArray) (hv:aY ys its') (hz:ys.length<=sizeLine):
  Inv X pins σ (upd H l (.lst ys)) { s with heap:=s.heap.update l (Obj.mapSeq f),toks:=t' }:=by
 have q:=PySem.IsL.update e f
 rw [hf] at q
 refine I.write (x:=l) (e:=l) (by rw [hH];exact trivial) (.inl rfl) (fun b' u hb hu=>(Heap.get?_update_other s.heap (Obj.mapSeq f) (Ne.symm hb)).trans hu) ⟨_,q⟩ ?_
 exact⟨hz,its',_,hv,q⟩
theorem Inv.lnew {its:List Value} {t':Nat} (I:Inv X pins σ H s) (hv:aY ys its) (hz:ys.length<=sizeLine):
  Inv X pins σ (upd H s.heap.objs.size (.lst ys)) { s with heap:=s.heap.push { cls:= .type "list",data:= .seq its.toArray },toks:=t' }:=
 I.laid (fun _ _ q=>af _ q) (aj _) ⟨hz,its,0,hv,ag _ rfl⟩
theorem Inv.fresh (I:Inv X pins σ H s):H s.heap.objs.size=none:=I.hok.fresh (aj _)
theorem Inv.lstM (I:Inv X pins σ H s) (hH:H l=some (.lst xs)):xs.length<=sizeLine/\ ∃ (its:List Value) (n:Nat),aY xs its/\xs.length=its.length/\s.heap.get? l=some { cls:= .type "list",data:= .seq its.toArray n }:=by
 obtain⟨z,its,n,r,e⟩:=I.hok l _ hH
 exact⟨z,its,n,r,r.length,e⟩
theorem pK {n:Nat} (h:n<=sizeLine):Builtin.List.listTooLong n=false:=by
 unfold Builtin.List.listTooLong
 exact decide_eq_false (by omega)
end
section
variable {X:Cx}
noncomputable def aCk:V->List V->Hp->VK->Prop:=fun x vs H Q=> ∃ l xs y,x= .ref l/\vs=[y]/\H l=some (.lst xs)/\xs.length<sizeLine/\Q .non (upd H l (.lst (xs++[y])))
theorem fT:MtM X "list.append" aCk:=by
 intro pins s σ H x vs v us Q I rx rv h
 obtain⟨l,xs,y,rfl,rfl,hH,hz,q⟩:=h
 cases rx
 obtain⟨u,rfl,ru⟩:=rv.one
 obtain⟨z,its,n,r,hl,e⟩:=I.lstM hH
 refine call_meets F.slot_list_append ⟨_,e,rfl⟩ F.entry_list_append (F.args_list_append_2 _ _) (PySem.list_append l its.toArray n u (by rw [aw];omega)) ⟨e, ?_⟩
 refine⟨.non,_,I.lset (its':=its++[u]) hH e (by simp) (r.append (.cons ru .nil)) ?_,rfl,q⟩
 rw [bo,List.length_singleton]
 omega
noncomputable def aOm:V->List V->Hp->VK->Prop:=fun x vs H Q=> ∃ l xs y,x= .ref l/\vs=[]/\H l=some (.lst xs)/\xs[xs.length - 1]? =some y/\Q y (upd H l (.lst xs.dropLast))
theorem aHl:MtM X "list.pop" aOm:=by
 intro pins s σ H x vs v us Q I rx rv h
 obtain⟨l,xs,y,rfl,rfl,hH,hy,q⟩:=h
 cases rx
 have hus:=rv.zero
 subst hus
 obtain⟨z,its,n,r,hl,e⟩:=I.lstM hH
 obtain⟨u,hu,ru⟩:=r.get hy
 have hy':its.toArray[its.toArray.size - 1]? =some u:=by
  show its.toArray[its.length - 1]? =some u
  rw [<-Array.getElem?_toList, <-hl]
  exact hu
 refine call_meets F.slot_list_pop ⟨_,e,rfl⟩ F.entry_list_pop (F.args_list_pop_1 _) (MeetsSeq.list_pop_last l its.toArray n u hy' (by rw [aw];omega)) ⟨e, ?_⟩
 refine⟨y,_,I.lset (its':=its.dropLast) hH e ?_ r.dropLast ?_,ru,q⟩
 ·show its.toArray.eraseIdxIfInBounds (its.toArray.size - 1)=its.dropLast.toArray
  rw [aw,List.eraseIdxIfInBounds_toArray,rO]
 ·rw [List.length_dropLast]
  omega
theorem nU {α:Type} (xs:List α) (k:Nat):(ak k xs).flatten.length=k * xs.length:=by
 induction k with
 | zero=>simp
 | succ k ih=>rw [List.replicate_succ,List.flatten_cons,bo,ih,Nat.succ_mul,Nat.add_comm]
end
section
variable {prog:Program} {w:World} {A:Around} {E:Value->Shared->Prop} {s:Shared}
end
section
variable {X:Cx}
end
end L2
namespace Att
open PySem PySem.W PySem.Calls PyProof.Rows
theorem iM {P:Params} {h:Heap}: ∀ (ns:List Int) (vs:List Value),WellAll P h vs (ns.map WData.int)->IntsAre vs ns:=by
 intro ns
 induction ns with
 | nil=>
  intro vs w
  rw [List.map_nil] at w
  cases w
  exact .nil
 | cons n ns ih=>
  intro vs w
  rw [List.map_cons] at w
  cases w with
  | cons a b=>
   cases a
   exact .cons _ _ (ih _ b)
theorem tD {l:OpenLaw} {n:Nat} (hn:l.most=some n) {P:Params} {h:Heap} {args:List WData} {vals:List Value}
  (hpre:l.row.toRowW.claim.pre args=true) (hwl:WellAll P h vals args):
  ∃ a vs ns,vals=[Value.ref a]/\args=[WData.list (ns.map WData.int)]/\h.get? a=some { cls:= .type "list",data:= .seq vs.toArray }/\IntsAre vs ns/\ns.length<=n:=by
 have hsh:WShape.hasAll [] args [.list .int]=true:=(pre_splitW hpre).1
 have hc:l.pre.holds [] { args:=args }=true:=(pre_splitW hpre).2
 obtain⟨d,r,rfl,h1,h2⟩:=hasAllW_cons hsh
 obtain rfl:=hasAllW_nil h2
 obtain⟨xs,rfl,h3⟩:=hasW_list h1
 obtain⟨ns,rfl⟩:=items_int h3
 have hlen:ns.length<=n:=by
  unfold OpenLaw.pre at hc
  have h4:(WTm.not (.lt (.lit (.int (n:Int))) (.len (.arg 0)))).holds [] { args:=[.list (ns.map .int)] }=true:=by
   have h4:=(holds_andW hc).1
   rw [hn] at h4
   exact h4
  have h5:=condW_of h4 (w_not (w_lt w_lit (w_len_list (w_arg rfl))))
  rw [ao] at h5
  refine Nat.le_of_not_lt fun q=> ?_
  have q':(n:Int)<((ns.length:Nat):Int):=by omega
  first
   | (rw [decide_eq_true q'] at h5;exact absurd h5 (by decide))
   | (simp at h5;omega)
 cases hwl with
 | cons w1 w2=>
  cases w2
  cases w1 with
  | list ho hall=>exact⟨_,_,ns,rfl,rfl,ho,iM ns _ hall,hlen⟩
theorem tF (l:OpenLaw) (args:List WData):l.row.toRowW.claim.post args (.bool true) args=true:=
 postW_of (r:=l.row.toRowW) (X:=(true==true))
  (show WShape.has [] (.bool true) .bool=true by first | rfl | decide | simp [WShape.has,WShape.arms,WShape.armsAll])
  (show(WTm.eq .res (.lit (.bool true))).value [] { args:=args,res:=some (.bool true),after:=args }=some (.bool (true==true)) from w_eq_bool (w_res rfl) w_lit) rfl
theorem attach_call {l:OpenLaw} {n:Nat} {q:Program} {loose:List Str} {XP:(Str->Option Value)->Heap->Prop} {YP:World->Heap->Prop} {d:DefRec}
  (hn:l.most=some n) (hdf:d.params.defaults=[])
  (call: ∀ (w:World) (s₀ s₁:Shared) (mg mb:Str->Option Value) (fa:Addr) (o:Obj) (pm cd doc:Value) (a:Addr) (vs:List Value) (ns:List Int),
   Ground q loose [] XP w s₀ mg mb s₁.heap->YP w s₁.heap->
   s₁.heap.get? fa=some o->o.data= .func (docDef d.name d.params d.body d.scope pm cd doc)->s₁.heap.CodeRec cd d.name->mg d.name=some (.ref fa)->
   s₁.heap.get? a=some { cls:= .type "list",data:= .seq vs.toArray }->IntsAre vs ns->ns.length<=n->s₁.gens= #[]->
   codeAny (model l.prog w) callerA (.call (.ref fa) ⟨[.ref a],[]⟩) (fun r s'=>r= .ok (.ret (.bool true))/\OldK s₁.heap s'.heap/\s'.os=s₁.os/\AllBare s'.gens) s₁):
  WalkO q loose XP YP l.row.toRowW d [] (fun f vs=>PySem.call f vs):=by
 intro w s₀ s₁ mg mb G Y fa o pm cd doc dV kV ho hd hcd hD hmg hg args vals as hpre hlay hrd hwl hlo
 obtain rfl:dV= .none:=Dflts.none hD hdf
 obtain rfl:kV= .none:=Dflts.noKw hD
 obtain⟨a,vs,ns,rfl,rfl,hobj,hints,hlen⟩:=tD hn hpre hwl
 refine enter_call (codeAny_mono (call w s₀ s₁ mg mb fa o pm cd doc a vs ns G Y ho (fd_plain hd) hcd hmg hobj hints hlen hg) fun r s' hq=> ?_)
 obtain⟨rfl,h2,h3,h4⟩:=hq
 exact⟨.inl ⟨.bool true, .bool true,[],rfl,fun _=>rfl, .bool true,tF l _,fun _=>⟨List.Pairwise.nil,fun _ hm=>(nomatch hm)⟩⟩,h2,h3,h4⟩
section
variable {prog:Program} {w:World} {A:Around} {E:Value->Shared->Prop} {s:Shared} {K:Frag}
noncomputable def aNi (h:Heap) (L d:Addr):List (Addr×Obj):=(List.range h.objs.size).filterMap fun a=>if a=L\/a=d then none else(h.get? a).map fun o=>(a,o)
end
end Att
namespace L2
open PySem PySem.Spec PyProof.Rows
theorem l8: ∀ {vs:List Value} {ns:List Int},IntsAre vs ns->aY (ns.map V.int) vs
 | _,_, .nil=> .nil
 | _,_, .cons n t h=> .cons ⟨t,rfl⟩ (l8 h)
def aLk (H:Hp):Prop:= ∀ b,H b=none\/ ∃ o xs,H b=some (.frz o (.lst xs))
noncomputable abbrev KOf {K:PySem.W.Frag} {h:Heap} (_:K.In h):PySem.W.Frag:=K
structure Fun (K:PySem.W.Frag) (x qual:Str) (st:Stmt) (f:Addr) (fd:FuncData):Prop where
 ex: ∃ (oc:Value) (od:Option Addr) (kV doc pm:Value) (an:Option Addr) (cdv ct:Value) (osl:Array (Option Value)),
  fd=PySem.W.fnOf x qual (defArgs st) (defBody st) (defScope st) .none kV doc pm an cdv ct/\K.lookup f=some ⟨oc,od, .func fd,osl⟩/\PySem.W.codeIn K cdv qual=true
 kp:PySem.W.keepIn K (.ref f)=true
section
variable {P:Program} {w:World} {K:PySem.W.Frag} {mg:Str->Option Value} {base:Heap}
theorem Fun.binds {x qual:Str} {st:Stmt} {f:Addr} {fd:FuncData} {ps:List Str} (F:Fun K x qual st f fd)
  (h: ∀ (kV doc pm:Value) (an:Option Addr) (cdv ct:Value) (us:List Value),us.length=ps.length->bindArgs (PySem.W.fnOf x qual (defArgs st) (defBody st) (defScope st) .none kV doc pm an cdv ct) ⟨us,[]⟩=pure (ps.zip us)):eK K fd ps []:=by
 obtain⟨oc,od,kV,doc,pm,an,cdv,ct,osl,rfl,lk,hcd⟩:=F.ex
 exact .all (h kV doc pm an cdv ct)
theorem pL {x qual:Str} {st:Stmt} {f:Addr} {oc:Value} {od an:Option Addr} {osl:Array (Option Value)} {kV doc pm cdv ct:Value} (l:K.lookup f=some ⟨oc,od, .func (PySem.W.fnOf x qual (defArgs st) (defBody st) (defScope st) .none kV doc pm an cdv ct),osl⟩)
  (c:PySem.W.codeIn K cdv qual=true) (k:PySem.W.keepIn K (.ref f)=true):Fun K x qual st f (PySem.W.fnOf x qual (defArgs st) (defBody st) (defScope st) .none kV doc pm an cdv ct):=⟨⟨oc,od,kV,doc,pm,an,cdv,ct,osl,rfl,l,c⟩,k⟩
end
section
variable {X:Cx}
end
theorem aCl {A B:Prop} (h:B):if false=true then A else B:=by
 rw [if_neg bf]
 exact h
theorem aAw {A B:Prop} (h:A):if true=true then A else B:=by
 rw [if_pos rfl]
 exact h
def Same (H H':Hp):Prop:= ∀ b o,H b=some o->H' b=some o
theorem Same.refl (H:Hp):Same H H:=fun _ _ h=>h
theorem Same.trans {H H1 H2:Hp} (a:Same H H1) (b:Same H1 H2):Same H H2:=fun c o h=>b c o (a c o h)
theorem Same.free {H H':Hp} (e:Same H H') {l:Addr} (h:H' l=Option.none):H l=Option.none:=by
 cases q:H l with
 | none=>rfl
 | some o=>
  rw [e l o q] at h
  cases h
theorem Same.seq {K:PySem.W.Frag} {H H':Hp} {a:Addr} {xs:List V} (e:Same H H') (h:SqL K H a xs):SqL K H' a xs:=by
 rcases h with (h | ⟨o,h⟩) | h
 ·exact .inl (.inl (e _ _ h))
 ·exact .inl (.inr ⟨o,e _ _ h⟩)
 ·exact .inr h
end L2
namespace SK
open PySem PySem.Spec PyProof.Rows L2
open PySem.AutoSeq1 (wpAny_loadPart' idx_int)
theorem l9 (l:Addr) (items:Array Value) (n:Nat) (b:Addr) (items2:Array Value) (n2:Nat) (dd2:Option Addr) (sl2:Array (Option Value)) (hc0: ¬(!items.isEmpty&&Builtin.List.listTooLong (items.size+items2.size))=true) (hc1:items.size<=sizeLine) (hs2:items.size+items2.size<=sizeLine+1):
  Meets (Builtin.«list.extend» ⟨[.ref l, .ref b],[]⟩) (fun _ R s=>s.heap.get? l=some { cls:= .type "list",dict:=none,data:= .seq items n,slots:= #[] }/\s.heap.get? b=some { cls:= .type "list",dict:=dd2,data:= .seq items2 n2,slots:=sl2 }/\R (.ok (.ret Value.none)) { s with heap:=s.heap.update l (Obj.mapSeq fun x=>x++items2),toks:=s.toks }):=
 .of_wp fun prog w A R s h=>by
  obtain⟨hp,g,d,tk,os⟩:=s;obtain⟨hl,hb,h⟩:=h;have f1:=idx_int;have f2:=AutoSeq1.sub_tuple_tuple;have f3:=AutoSeq1.sub_list_list;have f4:=AutoSeq1.sub_tuple_list;have f5:=AutoSeq1.sub_list_tuple;
  have hz':(items++items2).size<=sizeLine+1:=by rw [Array.size_append];exact hs2
  wp_walk using (wpAny_updateSeq hl rfl (hz:=hc1) (_hz':=hz')),wpAny_loadPart' hl,wpAny_loadPart' hb;exact⟨_,rfl,h⟩
theorem fC (a:Int) (t:Tok) (l:Addr) (items:Array Value) (n:Nat) (T:String) (dd:Option Addr) (sl:Array (Option Value)) (hT:T="list"\/T="tuple"):
  Meets (Builtin.«int.__rmul__» ⟨[.int a t, .ref l],[]⟩) (fun _ R s=>s.heap.get? l=some { cls:= .type T,dict:=dd,data:= .seq items n,slots:=sl }/\R (.ok (.ret Value.notImplemented)) s):=
 .of_wp fun prog w A R s h=>by
  obtain⟨hp,g,d,tk,os⟩:=s;obtain⟨hl,h⟩:=h
  rcases hT with rfl | rfl<;>(wp_walk using wpAny_loadPart' hl;exact⟨_,rfl,h⟩)
theorem tG (l:Addr) (items:Array Value) (n:Nat) (x:Int) (u:Tok) (dd:Option Addr) (sl:Array (Option Value)) (hc0: ¬(!Builtin.List.listFitsIndex x)=true) (hc1: ¬items.size * x.toNat > (2 ^ 63 - 1) / 8) (hc2: ¬Builtin.List.listTooLong (items.size * x.toNat)=true):
  Meets (Builtin.«list.__mul__» ⟨[.ref l, .int x u],[]⟩) (fun _ R s=>s.heap.get? l=some { cls:= .type "list",dict:=dd,data:= .seq items n,slots:=sl }/\R (.ok (.ret (Value.ref s.heap.objs.size))) { s with heap:=s.heap.push { cls:=Value.type "list",data:=Data.seq (List.foldl (fun x1 x2=>x1++x2) #[] (ak (if items.isEmpty=true then 0 else x.toNat) items)) },toks:=s.toks }):=
 .of_wp fun prog w A R s h=>by
  obtain⟨hp,g,d,tk,os⟩:=s;obtain⟨hl,h⟩:=h
  have hsz:=AutoListH.joined_fits hc2
  wp_walk using wpAny_loadPart' hl;refine wpAny_ite_false (decide_eq_false (Nat.not_lt.mpr hsz)) ?_;wp_walk;exact⟨_,rfl,h⟩
open PySem.AutoSeq1 (wpAny_loadPart' idx_int)
theorem nV (l:Addr) (items:Array Value) (n:Nat) (x:Int) (u:Tok) (dd:Option Addr) (sl:Array (Option Value)) (h0:(decide (x< -(2 ^ 63))||decide (x≥2 ^ 63))=false) (hc:(items.isEmpty||x==1)=true):
  Meets (Builtin.«tuple.__mul__» ⟨[.ref l, .int x u],[]⟩) (fun _ R s=>s.heap.get? l=some { cls:= .type "tuple",dict:=dd,data:= .seq items n,slots:=sl }/\R (.ok (.ret (Value.ref l))) s):=
 .of_wp fun prog w A R s h=>by
  obtain⟨hp,g,d,tk,os⟩:=s;obtain⟨hl,h⟩:=h
  have f1:=idx_int
  wp_walk;refine wpAny_ite_false (by rw [h0];rfl) ?_;wp_walk using wpAny_loadPart' hl;exact⟨_,rfl,h⟩
theorem nW (l:Addr) (items:Array Value) (n:Nat) (x:Int) (u:Tok) (dd:Option Addr) (sl:Array (Option Value)) (h0:(decide (x< -(2 ^ 63))||decide (x≥2 ^ 63))=false) (hc: ¬(items.isEmpty||x==1)=true) (hc1:(x<=0||items.isEmpty)=true):
  Meets (Builtin.«tuple.__mul__» ⟨[.ref l, .int x u],[]⟩) (fun _ R s=>s.heap.get? l=some { cls:= .type "tuple",dict:=dd,data:= .seq items n,slots:=sl }/\R (.ok (.ret (Value.ref s.heap.objs.size))) { s with heap:=s.heap.push { cls:=Value.type "tuple",data:=Data.seq #[] },toks:=s.toks }):=
 .of_wp fun prog w A R s h=>by
  obtain⟨hp,g,d,tk,os⟩:=s;obtain⟨hl,h⟩:=h
  have f1:=idx_int
  wp_walk;refine wpAny_ite_false (by rw [h0];rfl) ?_;wp_walk using wpAny_loadPart' hl;exact⟨_,rfl,h⟩
theorem nX (l:Addr) (items:Array Value) (n:Nat) (x:Int) (u:Tok) (dd:Option Addr) (sl:Array (Option Value)) (h0:(decide (x< -(2 ^ 63))||decide (x≥2 ^ 63))=false) (hc: ¬(items.isEmpty||x==1)=true) (hc1: ¬(x<=0||items.isEmpty)=true)
  (hc2: ¬ (items.size:Int) * x > (2 ^ 63 - 1) / 8) (hc3: ¬ Builtin.Tuple.tupleTooMany (items.size * x)=true) (hsz:(List.foldl (fun x1 x2=>x1++x2) #[] (ak x.toNat items)).size<=sizeLine):
  Meets (Builtin.«tuple.__mul__» ⟨[.ref l, .int x u],[]⟩) (fun _ R s=>s.heap.get? l=some { cls:= .type "tuple",dict:=dd,data:= .seq items n,slots:=sl }/\R (.ok (.ret (Value.ref s.heap.objs.size))) { s with heap:=s.heap.push { cls:=Value.type "tuple",data:=Data.seq (List.foldl (fun x1 x2=>x1++x2) #[] (ak x.toNat items)) },toks:=s.toks }):=
 .of_wp fun prog w A R s h=>by
  obtain⟨hp,g,d,tk,os⟩:=s;obtain⟨hl,h⟩:=h
  have f1:=idx_int
  wp_walk;refine wpAny_ite_false (by rw [h0];rfl) ?_;wp_walk using wpAny_loadPart' hl;refine wpAny_ite_false (decide_eq_false hc2) ?_;wp_walk;exact⟨_,rfl,h⟩
theorem gZ:fillsNumberSlot (.type "tuple") "mul"=pure false:=
 PySem.fillsNumberSlot_seq (id:="tuple.__mul__") (r:=some (.builtin "tuple.__rmul__")) F.slot_tuple_mul.lookup (by decide+kernel) F.slot_tuple_rmul.lookup (by decide+kernel)
theorem mB:seqRepeat? (.type "tuple")=pure (some (.builtin "tuple.__mul__")):=by
 unfold seqRepeat?
 rw [PySem.seqSlot_of (T:="tuple") (name:="__mul__") (id:="tuple.__mul__") F.slot_tuple_mul.lookup (by decide+kernel),PySem.seqSlot_of (T:="tuple") (name:="__rmul__") (id:="tuple.__rmul__") F.slot_tuple_rmul.lookup (by decide+kernel)]
 rfl
inductive D where
 | non | bl (b:Bool) | int (i:Int) | str (x:Str)
 | tup (xs:List D) | lst (xs:List D)
 | exc (c:Nat) | fn (f:Nat)
 deriving Inhabited
noncomputable def b2i (b:Bool):Int:=if b then 1 else 0
mutual
noncomputable def deq:D->D->Bool
 | .non, .non=>true
 | .bl a, .bl b=>a==b
 | .bl a, .int j=>b2i a==j
 | .int i, .bl b=>i==b2i b
 | .int i, .int j=>i==j
 | .str x, .str y=>x==y
 | .tup xs, .tup ys=>rP xs ys
 | .lst xs, .lst ys=>rP xs ys
 | _,_=>false
noncomputable def rP:List D->List D->Bool
 | [],[]=>true
 | x::xs,y::ys=>deq x y&&rP xs ys
 | _,_=>false
end
mutual
noncomputable def plain:D->Bool
 | .non=>true
 | .bl _=>true
 | .int _=>true
 | .str x=>x.cps.all (· <0x110000)
 | .tup xs=>a8 xs
 | .lst xs=>a8 xs
 | .exc _=>false
 | .fn _=>false
noncomputable def a8:List D->Bool
 | []=>true
 | x::xs=>plain x&&a8 xs
end
mutual
noncomputable def dep:D->Nat
 | .tup xs=>xS xs+1
 | .lst xs=>xS xs+1
 | _=>0
noncomputable def xS:List D->Nat
 | []=>0
 | x::xs=>max (dep x) (xS xs)
end
noncomputable def jS (x y:D):Bool:=plain x&&plain y&&decide (min (dep x) (dep y)<=60)
inductive R where
 | ok (d:D) | ow (xs:List D) | ex (c:Nat) | bad
noncomputable def R.bind (r:R) (k:D->R):R:=match r with
 | .ok d=>k d
 | .ow xs=>k (.lst xs)
 | .ex c=> .ex c
 | .bad=> .bad
structure Rk where
 held:List (Str×D)
 done:List D
 undone:List D
inductive RM where
 | pure (x:R) | chg (x:D) (r:Rk)
abbrev FM:=Rk->List D->RM
noncomputable def RM.told:RM->R
 | .pure x=>x
 | .chg _ _=> .bad
inductive Slot where
 | no | sh (d:D) | ow (xs:List D) | dc (kvs:List (D×D)) | sd (kvs:List (D×D)) | rk (C:Nat) (r:Rk)
noncomputable def Slot.isRk:Slot->Bool
 | .rk _ _=>true
 | _=>false
noncomputable def Slot.owns:Slot->Bool
 | .ow _=>true
 | .dc _=>true
 | _=>false
abbrev Rho:=List Slot
abbrev F:=Rho->R
inductive Out where
 | nx (ρ:Rho) | rt (r:R) | bk (ρ:Rho) | ct (ρ:Rho) | ex (c:Nat) (ρ:Rho)
abbrev FS:=Rho->Out
abbrev Fn:=List D->R
noncomputable def LIM:Nat:=100000
noncomputable def num:D->Option Int
 | .int i=>some i
 | .bl b=>some (b2i b)
 | _=>none
noncomputable def sml (i:Int):Bool:=decide (-18446744073709551616<i)&&decide (i<18446744073709551616)
noncomputable def eF (op:Operator) (i j:Int):R:=match op with
 | .Add=> .ok (.int (i+j))
 | .Sub=> .ok (.int (i - j))
 | .Mult=>if sml i||sml j then .ok (.int (i * j)) else .bad
 | .FloorDiv=>if 0<j/\j<1073741824 then .ok (.int (i / j)) else .bad
 | .Mod=>if 0<j then .ok (.int (i % j)) else .bad
 | .LShift=>if 0<=j/\j<=1000/\sml i=true then .ok (.int (i * 2 ^ j.toNat)) else .bad
 | .RShift=>if 0<=j then .ok (.int (i / 2 ^ j.toNat)) else .bad
 | _=> .bad
noncomputable def aKj (xs:List D) (k:Int):List D:=(ak k.toNat xs).flatten
noncomputable def kM (op:Operator) (x y:D):R:=match x,y with
 | .int i, .int j=>(match op with
  | .BitAnd=> .ok (.int (Builtin.bitAnd i j))
  | .BitOr=> .ok (.int (Builtin.bitOr i j))
  | .BitXor=> .ok (.int (Builtin.bitXor i j))
  | op=>eF op i j)
 | .int i, .bl b=>(match op with
  | .Sub=> .ok (.int (i - b2i b))
  | .Add=> .ok (.int (i+b2i b))
  | _=> .bad)
 | .tup xs, .tup ys=>(match op with
  | .Add=>if xs.length+ys.length<=LIM then .ok (.tup (xs++ys)) else .bad
  | _=> .bad)
 | .lst xs, .lst ys=>(match op with
  | .Add=>if xs.length+ys.length<=LIM then .ow (xs++ys) else .bad
  | _=> .bad)
 | .tup xs, .int k=>(match op with
  | .Mult=>if -1000000<k/\k<1000000/\xs.length * k.toNat<=LIM then .ok (.tup (aKj xs k)) else .bad
  | _=> .bad)
 | .lst xs, .int k=>(match op with
  | .Mult=>if -1000000<k/\k<1000000/\xs.length * k.toNat<=LIM then .ow (aKj xs k) else .bad
  | _=> .bad)
 | _,_=> .bad
noncomputable def items:D->Option (List D)
 | .tup xs=>some xs
 | .lst xs=>some xs
 | _=>none
noncomputable def rQ (x:Str):List D:=x.cps.toList.map fun c=>D.str ⟨#[c]⟩
noncomputable def jT:D->Option (List D)
 | .tup xs=>some xs
 | .lst xs=>some xs
 | .str x=>if x.cps.size<=1000 then some (rQ x) else none
 | _=>none
noncomputable def aCm:D->Bool
 | .non=>true
 | _=>false
noncomputable def aLl (b:Bool):D->Bool
 | .bl a=>a==b
 | _=>false
noncomputable def sJ (x:D) (ys:List D):Bool:=ys.all fun y=>jS y x
noncomputable def g9 (op:CmpOp) (x y:D):R:=match op with
 | .Eq=>if jS x y then .ok (.bl (deq x y)) else .bad
 | .NotEq=>if jS x y then .ok (.bl (!deq x y)) else .bad
 | .Lt=>(match x,y with | .int i, .int j=> .ok (.bl (decide (i<j))) | _,_=> .bad)
 | .LtE=>(match x,y with | .int i, .int j=> .ok (.bl (decide (i<=j))) | .str i, .str j=> .ok (.bl (!decide (j.cps.toList<i.cps.toList))) | _,_=> .bad)
 | .Gt=>(match x,y with | .int i, .int j=> .ok (.bl (decide (j<i))) | _,_=> .bad)
 | .GtE=>(match x,y with | .int i, .int j=> .ok (.bl (decide (j<=i))) | _,_=> .bad)
 | .Is=>(match y with
  | .non=> .ok (.bl (aCm x))
  | .bl b=> .ok (.bl (aLl b x))
  | _=> .bad)
 | .IsNot=>(match y with
  | .non=> .ok (.bl (!aCm x))
  | .bl b=> .ok (.bl (!aLl b x))
  | _=> .bad)
 | .In=>(match items y with | some ys=>if sJ x ys then .ok (.bl (ys.any fun y=>deq y x)) else .bad | none=> .bad)
 | .NotIn=>(match items y with | some ys=>if sJ x ys then .ok (.bl (!ys.any fun y=>deq y x)) else .bad | none=> .bad)
noncomputable def ixD (n:Nat) (i:Int):Option Nat:=if 0<=i then(if i<n then some i.toNat else none) else if -(n:Int)<=i then some (i+n).toNat else none
noncomputable def dIx (x y:D):R:=match items x,y with
 | some xs, .int i=>(match(ixD xs.length i).bind fun j=>xs[j]? with | some d=> .ok d | none=> .bad)
 | _,_=> .bad
noncomputable def tH (n d:Nat):Option Int->Nat
 | none=>d
 | some v=>if v<0 then(v+n).toNat else min v.toNat n
noncomputable def xT (xs:List D) (lo hi:Option Int):List D:=(xs.drop (tH xs.length 0 lo)).take (tH xs.length xs.length hi - tH xs.length 0 lo)
noncomputable def aHm (x:D) (lo hi:Option Int):R:=match x with
 | .tup xs=> .ok (.tup (xT xs lo hi))
 | .lst xs=> .ow (xT xs lo hi)
 | _=> .bad
noncomputable def aF0:D->(Int->R)->R
 | .int i,k=>k i
 | _,_=> .bad
noncomputable def aB (i:Nat):F:=fun ρ=>match ρ[i]? with | some (.sh d)=> .ok d | _=> .bad
noncomputable def aT (i:Nat):F:=fun ρ=>match ρ[i]? with | some (.sh d)=> .ok d | some (.ow xs)=> .ok (.lst xs) | _=> .bad
noncomputable def tJ (i:Nat):F:=fun ρ=>match ρ[i]? with | some (.sh d)=> .ok d | some (.ow xs)=> .ow xs | _=> .bad
noncomputable def rK (d:D):F:=fun _=> .ok d
noncomputable def a9 (op:Operator) (a b:F):F:=fun ρ=>(a ρ).bind fun x=>(b ρ).bind fun y=>kM op x y
noncomputable def aNj (a:F):F:=fun ρ=>(a ρ).bind fun x=>match x with | .int i=> .ok (.int (-i)) | _=> .bad
noncomputable def hF (a:F):F:=fun ρ=>(a ρ).bind fun x=>match x with | .bl b=> .ok (.bl (!b)) | _=> .bad
noncomputable def fI (a b:F):F:=fun ρ=>(a ρ).bind fun x=>match x with | .bl true=>b ρ | .bl false=> .ok (.bl false) | _=> .bad
noncomputable def rOr (a b:F):F:=fun ρ=>(a ρ).bind fun x=>match x with | .bl true=> .ok (.bl true) | .bl false=>b ρ | _=> .bad
noncomputable def rIf (c a b:F):F:=fun ρ=>(c ρ).bind fun x=>match x with | .bl true=>a ρ | .bl false=>b ρ | _=> .bad
noncomputable def bW (op:CmpOp) (a b:F):F:=fun ρ=>(a ρ).bind fun x=>(b ρ).bind fun y=>g9 op x y
noncomputable def jU (op op':CmpOp) (a b c:F):F:=fun ρ=>(a ρ).bind fun x=>(b ρ).bind fun y=>(g9 op x y).bind fun z=>match z with
 | .bl true=>(c ρ).bind fun w=>g9 op' y w
 | .bl false=> .ok (.bl false)
 | _=> .bad
inductive RA where
 | ok (ds:List D) | ex (c:Nat) | bad
noncomputable def RA.cons (x:D):RA->RA
 | .ok ds=> .ok (x::ds)
 | .ex c=> .ex c
 | .bad=> .bad
noncomputable def RA.then (r:RA) (k:List D->R):R:=match r with
 | .ok ds=>k ds
 | .ex c=> .ex c
 | .bad=> .bad
noncomputable def args:List F->Rho->RA
 | [],_=> .ok []
 | f::fs,ρ=>match f ρ with
  | .ok x=>(args fs ρ).cons x
  | .ow xs=>(args fs ρ).cons (.lst xs)
  | .ex c=> .ex c
  | .bad=> .bad
noncomputable def nH (fs:List F) (ρ:Rho) (k:List D->R):R:=(args fs ρ).then k
noncomputable def jH (fs:List F):F:=fun ρ=>nH fs ρ fun xs=> .ok (.tup xs)
noncomputable def eT (fs:List F):F:=fun ρ=>nH fs ρ fun xs=> .ow xs
noncomputable def rIx (a b:F):F:=fun ρ=>(a ρ).bind fun x=>(b ρ).bind fun y=>dIx x y
noncomputable def aHn (a:F) (lo hi:Option F):F:=fun ρ=>(a ρ).bind fun x=>match lo,hi with
 | none,none=>aHm x none none
 | some l,none=>(l ρ).bind fun y=>aF0 y fun i=>aHm x (some i) none
 | none,some h=>(h ρ).bind fun z=>aF0 z fun j=>aHm x none (some j)
 | some l,some h=>(l ρ).bind fun y=>aF0 y fun i=>(h ρ).bind fun z=>aF0 z fun j=>aHm x (some i) (some j)
noncomputable def aD (f:Fn) (fs:List F):F:=fun ρ=>nH fs ρ f
noncomputable def aHo (r:Fn) (a b:F):F:=fun ρ=>(a ρ).bind fun x=>match x with | .lst ds=>(b ρ).bind fun y=>r [.lst ds,y] | _=> .bad
noncomputable def rIs (p:D->Option Bool) (a:F):F:=fun ρ=>(a ρ).bind fun x=>match p x with | some b=> .ok (.bl b) | none=> .bad
noncomputable def bT (f:D->Option (Option D)):List D->Option (List D)
 | []=>some []
 | d::r=>match f d with
  | none=>none
  | some none=>bT f r
  | some (some x)=>(bT f r).map (x:: ·)
noncomputable def tgt (n:Nat) (d:D):Option (List Slot):=match n with
 | 0=>some [.sh d]
 | n=>match d with
  | .tup ds=>if ds.length=n then some (ds.map Slot.sh) else none
  | _=>none
noncomputable def pM (cs:List Nat) (ρ:Rho):List Slot:=cs.map fun i=>(ρ[i]?).getD .no
noncomputable def eI (n:Nat) (cs:List Slot) (c:Option F) (e:F) (d:D):Option (Option D):=match tgt n d with
 | none=>none
 | some ts=>match c with
  | none=>(match e (ts++cs) with | .ok x=>some (some x) | .ow xs=>some (some (.lst xs)) | _=>none)
  | some c=>match c (ts++cs) with
   | .ok (.bl true)=>(match e (ts++cs) with | .ok x=>some (some x) | .ow xs=>some (some (.lst xs)) | _=>none)
   | .ok (.bl false)=>some none
   | _=>none
noncomputable def bO (n:Nat) (cs:List Nat) (it:F) (c:Option F) (e:F):F:=fun ρ=>(it ρ).bind fun x=>match jT x with
 | some ds=>(match bT (eI n (pM cs ρ) c e) ds with | some xs=> .ow xs | none=> .bad)
 | none=> .bad
noncomputable def nY (n:Nat):List D:=(List.range n).map fun(i:Nat)=>D.int (i:Int)
noncomputable def bN (a:F):F:=fun ρ=>(a ρ).bind fun x=>aF0 x fun i=>if -100000<=i/\i<=100000 then .ok (.lst (nY i.toNat)) else .bad
noncomputable def rR (a:F):F:=fun ρ=>(a ρ).bind fun x=>match items x with
 | some xs=> .ok (.lst (xs.zipIdx.map fun p=>D.tup [.int (p.2:Nat),p.1]))
 | none=> .bad
noncomputable def aF1 (a b:F):F:=fun ρ=>(a ρ).bind fun x=>(b ρ).bind fun y=>match x,y with
 | .tup xs, .tup ys=> .ok (.lst ((xs.zip ys).map fun p=>D.tup [p.1,p.2]))
 | .lst xs, .lst ys=> .ok (.lst ((xs.zip ys).map fun p=>D.tup [p.1,p.2]))
 | .lst xs, .tup ys=> .ok (.lst ((xs.zip ys).map fun p=>D.tup [p.1,p.2]))
 | .tup xs, .lst ys=> .ok (.lst ((xs.zip ys).map fun p=>D.tup [p.1,p.2]))
 | _,_=> .bad
noncomputable def aNk:D->R | .str z=>if z.length<=100000 then .ok (.int z.length) else .bad | _=> .bad
noncomputable def nI:Fn | [x]=>(match items x with | some xs=> .ok (.int xs.length) | none=>aNk x) | _=> .bad
noncomputable def aHp:Fn | [.int i]=> .ok (.int i) | [.bl b]=> .ok (.int (b2i b)) | _=> .bad
noncomputable def mC:Fn | [x]=>(match items x with | some xs=> .ok (.tup xs) | none=> .bad) | _=> .bad
noncomputable def aCn:Fn | [x]=>(match items x with | some xs=> .ow xs | none=> .bad) | _=> .bad
noncomputable def eL:List D->Option (List Int)
 | []=>some []
 | .int i::r=>(eL r).map (i:: ·)
 | _::_=>none
noncomputable def eG:List D->Option (List Bool)
 | []=>some []
 | .bl b::r=>(eG r).map (b:: ·)
 | _::_=>none
noncomputable def xE:Fn | [x]=>(match(items x).bind eL with | some xs=> .ok (.int xs.sum) | none=> .bad) | _=> .bad
noncomputable def aF2:Fn | [x]=>(match(items x).bind eG with | some xs=> .ok (.bl (xs.all id)) | none=> .bad) | _=> .bad
noncomputable def aKk:Fn | [x]=>(match(items x).bind eG with | some xs=> .ok (.bl (xs.any id)) | none=> .bad) | _=> .bad
noncomputable def aPk:Fn | [.int i, .int j]=> .ok (.int (if j > i then j else i)) | _=> .bad
noncomputable def aPl:Fn | [.int i, .int j]=> .ok (.int (if j<i then j else i)) | _=> .bad
noncomputable def xU:Int->List Int->Int
 | m,[]=>m
 | m,i::r=>xU (if m<i then i else m) r
noncomputable def aNl:Int->List Int->Int
 | m,[]=>m
 | m,i::r=>aNl (if i<m then i else m) r
noncomputable def aOn:Fn | [x]=>(match(items x).bind eL with | some (n::ns)=> .ok (.int (xU n ns)) | _=> .bad) | _=> .bad
noncomputable def aPm:Fn | [.int i]=> .ok (.int (if i<0 then -i else i)) | _=> .bad
noncomputable def aNm (i:Int):List Int->List Int
 | []=>[i]
 | j::r=>if i<=j then i::j::r else j::aNm i r
noncomputable def aHq:List Int->List Int
 | []=>[]
 | i::r=>aNm i (aHq r)
noncomputable def nZ:List Int->List Int->Bool
 | [],[]=>false
 | [],_::_=>true
 | _::_,[]=>false
 | a::r,b::t=>if a=b then nZ r t else decide (a<b)
mutual
noncomputable def same:D->D->Bool
 | .int _, .int _=>true
 | .tup xs, .tup ys=>bP xs ys
 | _,_=>false
noncomputable def bP:List D->List D->Bool
 | [],[]=>true
 | x::xs,y::ys=>same x y&&bP xs ys
 | _,_=>false
end
mutual
noncomputable def pN:D->List Int
 | .int i=>[i]
 | .tup xs=>iN xs
 | _=>[]
noncomputable def iN:List D->List Int
 | []=>[]
 | x::xs=>pN x++iN xs
end
noncomputable def ltD (x y:D):Bool:=nZ (pN x) (pN y)
noncomputable def aNn (a:D):List D->List D
 | []=>[a]
 | b::r=>if ltD b a then b::aNn a r else a::b::r
noncomputable def aCo:List D->List D
 | []=>[]
 | a::r=>aNn a (aCo r)
noncomputable def aNo (d:D):List D->D
 | []=>d
 | e::r=>aNo (if ltD e d then e else d) r
noncomputable def aHr:D->Bool
 | .tup (_::_)=>true
 | _=>false
noncomputable def tK:D->Bool
 | .tup _=>true
 | _=>false
noncomputable def aCp:List D->Bool
 | []=>false
 | d::r=>tK d&&(r.isEmpty||aHr d)&&decide (dep d<=8)&&same d d&&r.all (same d)
noncomputable def aOo (acc:List D) (d:D):List D:=if acc.any (fun e=>deq e d) then acc else acc++[d]
noncomputable def ddD (ds:List D):List D:=ds.foldl aOo []
noncomputable def aLm (ds:List D):R:=if aCp ds then(match ds with | d::r=> .ok (aNo d r) | []=> .bad) else .bad
noncomputable def aLn (ds:List D):R:=match eL ds with
 | some ns=>(match ns with | n::r=> .ok (.int (aNl n r)) | []=> .bad)
 | none=>aLm ds
noncomputable def aOp:Fn | [x]=>(match items x with | some ds=>aLn ds | none=> .bad) | _=> .bad
noncomputable def xV (ds:List D):R:=if aCp ds&&decide (ds.length<64) then .ow (aCo ds) else .bad
noncomputable def xW (ds:List D):R:=match eL ds with
 | some ns=>if ns.length<64 then .ow ((aHq ns).map D.int) else .bad
 | none=>xV ds
noncomputable def aLo:Fn | [x]=>(match items x with | some ds=>xW ds | none=> .bad) | _=> .bad
noncomputable def aNp (ns:List Int):List Int:=((List.range 17).filter fun(k:Nat)=>ns.contains (k:Int)).map fun(k:Nat)=>(k:Int)
noncomputable def aNq (ns:List Int):Bool:=ns.all fun n=>decide (0<=n/\n<17)
noncomputable def aOq (ds:List D):R:=if aCp ds&&decide ((ddD ds).length<64) then .ow (aCo (ddD ds)) else .bad
noncomputable def aOr (ds:List D):R:=match eL ds with | some ns=>if aNq ns then .ow ((aNp ns).map D.int) else .bad | none=>aOq ds
noncomputable def dSS:Fn | [x]=>(match x with | .lst ds=>aOr ds | _=> .bad) | _=> .bad
noncomputable def aOs (ds:List D):R:=match eL ds with | some ns=>if aNq ns then .ok (.int ((aNp ns).length:Nat)) else .bad | none=> .bad
noncomputable def dLS:Fn | [x]=>(match x with | .lst ds=>aOs ds | _=> .bad) | _=> .bad
noncomputable def aHs:Fn | [.lst ys,x]=>if sJ x ys then .ok (.int ((ys.countP fun y=>deq y x):Nat)) else .bad | _=> .bad
noncomputable def aHt:Fn | [.lst ys,x]=>if sJ x ys then(match ys.findIdx? fun y=>deq y x with | some k=> .ok (.int (k:Nat)) | none=> .bad) else .bad | _=> .bad
noncomputable def aOt (x:D):R:=match x with | .lst xs=> .ow xs.reverse | .tup xs=> .ok (.tup xs.reverse) | _=> .bad
noncomputable def aPn (a:F):F:=fun ρ=>(a ρ).bind aOt
noncomputable def aLp {α:Type} (xs:List α) (lo:Nat):List α:=(List.range ((xs.length - lo+1) / 2)).filterMap fun k=>xs[lo+2 * k]?
noncomputable def aLq (x y:D):R:=match x with | .tup xs=>(match y with | .int i=>if 0<=i then .ok (.tup (aLp xs i.toNat)) else .bad | _=> .bad) | _=> .bad
noncomputable def aOu (a b:F):F:=fun ρ=>(a ρ).bind fun x=>(b ρ).bind fun y=>aLq x y
noncomputable def aPo (a:F):F:=fun ρ=>(a ρ).bind fun x=>match x with | .bl b=> .ok (.bl b) | .lst xs=> .ok (.bl (!xs.isEmpty)) | _=> .bad
noncomputable def orP (p q:D->Option Bool):D->Option Bool:=fun d=>match p d,q d with | some a,some b=>some (a||b) | _,_=>none
mutual
noncomputable def hkD:D->Bool
 | .non=>true
 | .int _=>true
 | .tup xs=>aAx xs
 | _=>false
noncomputable def aAx:List D->Bool
 | []=>true
 | x::xs=>hkD x&&aAx xs
end
noncomputable def cJ (k:D):Bool:=tK k&&hkD k&&decide (dep k<=8)
noncomputable def nJ (kvs:List (D×D)) (k:D):Bool:=kvs.any fun p=>deq p.1 k
noncomputable def putK (kvs:List (D×D)) (k d:D):List (D×D):=if nJ kvs k then kvs.map (fun p=>if deq p.1 k then(p.1,d) else p) else kvs++[(k,d)]
noncomputable def inK (op:CmpOp) (b:Bool):R:=match op with
 | .In=> .ok (.bl b)
 | .NotIn=> .ok (.bl !b)
 | _=> .bad
noncomputable def aHu (op:CmpOp) (a:F) (i:Nat):F:=fun ρ=>(a ρ).bind fun x=>match ρ[i]? with
 | some (.dc kvs)=>if cJ x then inK op (nJ kvs x) else .bad
 | some (.sd kvs)=>if cJ x then inK op (nJ kvs x) else .bad
 | some (.sh y)=>g9 op x y
 | some (.ow ys)=>g9 op x (.lst ys)
 | _=> .bad
noncomputable def iO (i:Nat):F:=fun ρ=>match ρ[i]? with
 | some (.dc kvs)=> .ok (.lst (kvs.map (·.1)))
 | some (.sd kvs)=> .ok (.lst (kvs.map (·.1)))
 | _=>aT i ρ
noncomputable def put (ρ:Rho) (i:Nat) (s:Slot):Rho:=ρ.set i s
noncomputable def frz1 (i:Nat) (ρ:Rho):Rho:=match ρ[i]? with | some (.ow xs)=>ρ.set i (.sh (.lst xs)) | some (.dc kvs)=>ρ.set i (.sd kvs) | _=>ρ
noncomputable def frz (is:List Nat) (ρ:Rho):Rho:=is.foldl (fun ρ i=>frz1 i ρ) ρ
noncomputable def aKl (is:List Nat) (s:FS):FS:=fun ρ=>s (frz is ρ)
noncomputable def fQ (ρ:Rho) (r:R) (k:D->Out):Out:=match r with
 | .ok d=>k d
 | .ow xs=>k (.lst xs)
 | .ex c=> .ex c ρ
 | .bad=> .rt .bad
noncomputable def g0 (i:Nat) (e:F):FS:=fun ρ=>fQ ρ (e ρ) fun d=> .nx (ρ.set i (.sh d))
noncomputable def iP (i:Nat) (e:F):FS:=fun ρ=>match e ρ with
 | .ok d=> .nx (ρ.set i (.sh d))
 | .ow xs=> .nx (ρ.set i (.ow xs))
 | .ex c=> .ex c ρ
 | .bad=> .rt .bad
noncomputable def setN:List Nat->List D->Rho->Rho
 | i::is,d::ds,ρ=>setN is ds (ρ.set i (.sh d))
 | _,_,ρ=>ρ
noncomputable def jI (is:List Nat) (e:F):FS:=fun ρ=>fQ ρ (e ρ) fun d=>match d with
 | .tup ds=>if ds.length=is.length then .nx (setN is ds ρ) else .rt .bad
 | .lst ds=>if ds.length=is.length then .nx (setN is ds ρ) else .rt .bad
 | _=> .rt .bad
noncomputable def aKm (i:Nat) (op:Operator) (e:F):FS:=fun ρ=>match ρ[i]? with
 | some (.sh (.int a))=>fQ ρ (e ρ) fun d=>(match d,op with
  | .int b, .Add=> .nx (ρ.set i (.sh (.int (a+b))))
  | .int b, .Sub=> .nx (ρ.set i (.sh (.int (a - b))))
  | _,_=> .rt .bad)
 | _=> .rt .bad
noncomputable def kN (e:F):FS:=fun ρ=>fQ ρ (e ρ) fun _=> .nx ρ
noncomputable def dG (e:F):FS:=fun ρ=>match e ρ with
 | .ok d=> .rt (.ok d)
 | .ow xs=> .rt (.ow xs)
 | .ex c=> .ex c ρ
 | .bad=> .rt .bad
noncomputable def aHv:FS:=fun _=> .rt (.ok .non)
noncomputable def bQ:FS:=fun ρ=> .nx ρ
noncomputable def aNr:FS:=fun ρ=> .bk ρ
noncomputable def aHw:FS:=fun ρ=> .ct ρ
noncomputable def aV (a b:FS):FS:=fun ρ=>match a ρ with | .nx ρ'=>b ρ' | o=>o
noncomputable def sIf (c:F) (a b:FS):FS:=fun ρ=>match c ρ with
 | .ok (.bl true)=>a ρ
 | .ok (.bl false)=>b ρ
 | .ex c=> .ex c ρ
 | _=> .rt .bad
noncomputable def fD (c:Nat):FS:=fun ρ=> .ex c ρ
noncomputable def lL (i:Nat) (e:F):FS:=fun ρ=>match ρ[i]? with
 | some (.ow xs)=>fQ ρ (e ρ) fun d=>if xs.length<LIM then .nx (ρ.set i (.ow (xs++[d]))) else .rt .bad
 | _=> .rt .bad
noncomputable def aHx (i:Nat) (e:F):FS:=fun ρ=>match ρ[i]? with
 | some (.ow xs)=>fQ ρ (e ρ) fun d=>(match d with
  | .lst ys=>if xs.length+ys.length<=LIM then .nx (ρ.set i (.ow (xs++ys))) else .rt .bad
  | _=> .rt .bad)
 | _=> .rt .bad
noncomputable def aAy (i:Nat) (k e:F):FS:=fun ρ=>fQ ρ (e ρ) fun d=>match ρ[i]? with
 | some (.ow xs)=>fQ ρ (k ρ) fun y=>(match y with
  | .int j=>(match ixD xs.length j with | some m=> .nx (ρ.set i (.ow (xs.set m d))) | none=> .rt .bad)
  | _=> .rt .bad)
 | some (.dc kvs)=>fQ ρ (k ρ) fun y=>if cJ y&&decide (kvs.length<LIM) then .nx (ρ.set i (.dc (putK kvs y d))) else .rt .bad
 | _=> .rt .bad
noncomputable def aCq (i:Nat):FS:=fun ρ=> .nx (ρ.set i (.dc []))
noncomputable def aOv (i j:Nat) (e:F):FS:=fun ρ=>fQ ρ (e ρ) fun d=> .nx ((ρ.set i (.sh d)).set j (.dc []))
noncomputable def aOw:List D->Option (D×D)
 | [a,b]=>some (a,b)
 | _=>none
noncomputable def aOx:D->Option (D×D)
 | .tup ds=>aOw ds
 | _=>none
noncomputable def aOy (i:Nat) (k l e:F):FS:=fun ρ=>fQ ρ (e ρ) fun d=>(match aOx d with
 | some (d1,d2)=>(match ρ[i]? with
  | some (.ow xs)=>fQ ρ (k ρ) fun y=>(match y with
   | .int j=>(match ixD xs.length j with
    | some m=>fQ (ρ.set i (.ow (xs.set m d1))) (l (ρ.set i (.ow (xs.set m d1)))) fun z=>(match z with
     | .int j2=>(match ixD (xs.set m d1).length j2 with
      | some m2=> .nx ((ρ.set i (.ow (xs.set m d1))).set i (.ow ((xs.set m d1).set m2 d2)))
      | none=> .rt .bad)
     | _=> .rt .bad)
    | none=> .rt .bad)
   | _=> .rt .bad)
  | _=> .rt .bad)
 | none=> .rt .bad)
noncomputable def xX (i:Nat) (k e:F):FS:=fun ρ=>match ρ[i]? with
 | some (.ow xs)=>fQ ρ (k ρ) fun y=>(match y with
  | .int j=>(match ixD xs.length j with
   | some m=>(match xs[m]? with
    | some (.int a)=>fQ ρ (e ρ) fun d=>(match d with
     | .int b=> .nx (ρ.set i (.ow (xs.set m (.int (a+b)))))
     | _=> .rt .bad)
    | _=> .rt .bad)
   | none=> .rt .bad)
  | _=> .rt .bad)
 | _=> .rt .bad
noncomputable def tN (is:List Nat) (one:Bool) (d:D) (ρ:Rho):Option Rho:=match one,is with
 | true,[i]=>some (ρ.set i (.sh d))
 | false,is=>(match d with
  | .tup ds=>if ds.length=is.length then some (setN is ds ρ) else none
  | _=>none)
 | _,_=>none
noncomputable def jJ (t:D->Rho->Option Rho) (b:FS):List D->Rho->Out
 | [],ρ=> .nx ρ
 | d::r,ρ=>match t d ρ with
  | none=> .rt .bad
  | some ρ1=>match b ρ1 with
   | .nx ρ2=>jJ t b r ρ2
   | .ct ρ2=>jJ t b r ρ2
   | .bk ρ2=> .nx ρ2
   | .rt r=> .rt r
   | .ex c ρ2=> .ex c ρ2
noncomputable def tP (is:List Nat) (one:Bool) (it:F) (b:FS):FS:=fun ρ=>fQ ρ (it ρ) fun x=>match items x with
 | some ds=>jJ (tN is one) b ds ρ
 | none=> .rt .bad
noncomputable def aKn:FS:=fun _=> .rt .bad
noncomputable def aPp (i j:Nat) (hit:Nat->Bool) (b:FS):FS:=fun ρ=>match b ρ with
 | .ex c ρ'=>if hit c then .nx ((ρ'.set i .no).set j (.sh (.exc c))) else .ex c ρ'
 | o=>o
noncomputable def fnOf (n:Nat) (b:FS):Fn:=fun ds=>match b (ds.map Slot.sh++ak (n - ds.length) .no) with
 | .rt (.ok d)=> .ok d
 | .rt (.ow xs)=> .ow xs
 | .rt _=> .bad
 | .nx _=> .ok .non
 | .ex c _=> .ex c
 | _=> .bad
inductive Py where
 | len | range | enum | zip | isin | int | bool | str | tuple | list | sum | all | any | sorted | min | max | abs | set
 deriving DecidableEq
inductive Gl where
 | fn (k n:Nat) (f:Fn) | exc (c:Nat) | verr | val (d:D) | py (p:Py) | cls (a:Nat) (ms:List (Str×Nat×FM))
noncomputable def hit (c e:Nat):Bool:=c==e||c==0||c==100
structure Ctx where
 tab:List (Str×Gl)
 fns:List (Nat×Fn)
 sc:Scope
 N:List Str
 bs:List Str
noncomputable def idx (x:Str):List Str->Option Nat
 | []=>none
 | y::r=>if x=y then some 0 else(idx x r).map (· +1)
noncomputable def loc (C:Ctx) (x:Str):Option Nat:=match C.sc.names.lookup x with
 | some .local=>idx x C.N
 | some .cell=>idx x C.N
 | some .free=>idx x C.N
 | _=>none
noncomputable def dR (C:Ctx) (x:Str):Option Nat:=match C.sc.names.lookup x with
 | some .cell=>idx x C.N
 | some .free=>idx x C.N
 | _=>none
noncomputable def glo (C:Ctx) (x:Str):Option Gl:=match C.sc.names.lookup x with
 | some .globalImplicit=>C.tab.lookup x
 | _=>none
noncomputable def isP:Gl->Option (D->Option Bool)
 | .py .int=>some fun d=>match d with | .int _=>some true | .bl _=>some true | .exc _=>none | .fn _=>none | _=>some false
 | .py .bool=>some fun d=>match d with | .bl _=>some true | .exc _=>none | .fn _=>none | _=>some false
 | .py .tuple=>some fun d=>match d with | .tup _=>some true | .exc _=>none | .fn _=>none | _=>some false
 | .py .list=>some fun d=>match d with | .lst _=>some true | .exc _=>none | .fn _=>none | _=>some false
 | .py .str=>some fun d=>match d with | .str _=>some true | .exc _=>none | .fn _=>none | _=>some false
 | .exc c=>some fun d=>match d with | .exc e=>some (hit c e) | _=>none
 | .verr=>some fun d=>match d with | .exc e=>some (hit 100 e) | _=>none
 | _=>none
noncomputable def kD:Const->Option D
 | .int i=>some (.int i)
 | .bool b=>some (.bl b)
 | .none=>some .non
 | .str x=>some (.str x)
 | _=>none
noncomputable def dO {α β:Type} (f:α->Option β):List α->Option (List β)
 | []=>some []
 | x::r=>match f x with
  | none=>none
  | some y=>(dO f r).map (y:: ·)
noncomputable def bR:Expr->Option (List Str×Nat)
 | .Name x _=>some ([x],0)
 | .Tuple es _ _=>(dO (fun(e:Expr)=>match e with | .Name x _=>some x | _=>none) es).bind fun xs=>if 2<=xs.length then some (xs,xs.length) else none
 | _=>none
noncomputable def aO (sc:Scope):List Str:=(sc.names.filter fun p=>p.2== .free).map (·.1)
noncomputable def mD (sc:Scope):List Str:=(sc.names.filter fun p=>p.2== .cell).map (·.1)
noncomputable def iQ (sc:Scope) (xs:List Str):Bool:=
 sc.kind== .function&&((mD sc).isEmpty||(decide (mD sc=xs)&&decide (xs.length=1)))&&xs.all (fun x=>sc.names.lookup x==some (if(mD sc).isEmpty then .local else .cell))&&
  sc.names.all (fun p=>p.2 != .local||sc.names.lookup p.1==some .local)&&decide (xs++aO sc).Nodup&&(xs++aO sc).all (fun x=>x != "__debug__"&&x != "__classdict__")&&(aO sc).all (fun x=>sc.names.lookup x==some .free)
noncomputable def one:List Expr->Option Expr
 | [a]=>some a
 | _=>none
noncomputable def two:List Expr->Option (Expr×Expr)
 | [a,b]=>some (a,b)
 | _=>none
noncomputable def bJ:Expr->Option (Str×Pos)
 | .Name x p=>some (x,p)
 | _=>none
noncomputable def aCr:Expr->Option (List Expr×Nat×Pos)
 | .Tuple es k p=>some (es,k,p)
 | _=>none
noncomputable def aAz:Expr->Option (Option Expr×Option Expr)
 | .Slice lo hi st _=>(match st with | none=>some (lo,hi) | some _=>none)
 | _=>none
noncomputable def aLr:Expr->Bool
 | .Constant c _ _=>(match c with | .int i=>i==1 | _=>false)
 | _=>false
noncomputable def aOz:Expr->Bool
 | .UnaryOp op e _=>(match op with | .USub=>aLr e | _=>false)
 | _=>false
noncomputable def aHy:Expr->Bool
 | .Name _ _=>true
 | _=>false
noncomputable def aNs:Expr->Bool
 | .Subscript _ _ _=>true
 | _=>false
noncomputable def aLs:Expr->Bool
 | .Constant c _ _=>(match c with | .int i=>i==2 | _=>false)
 | _=>false
noncomputable def aO0:Expr->Option Expr
 | .Slice lo hi st _=>if hi.isNone&&(match st with | none=>false | some e=>aLs e) then lo else none
 | _=>none
noncomputable def aPq:Expr->Bool
 | .Slice lo hi st _=>lo.isNone&&hi.isNone&&(match st with | none=>false | some e=>aOz e)
 | _=>false
noncomputable def aCs (e:Expr):Option (Str×Str):=(aCr e).bind fun(es,_)=>(two es).bind fun(u,v)=>(bJ u).bind fun(x,_)=>(bJ v).map fun(y,_)=>(x,y)
noncomputable def aCt:Expr->Bool
 | .Constant c _ _=>(match c with | .str _=>true | _=>false)
 | _=>false
noncomputable def aHz (dE:Expr->Option F) (C:Ctx) (a:Expr):Option F:=match a with
 | .Call f as kws _=>if kws.isEmpty then(bJ f).bind fun(x,_)=>(one as).bind fun b=>(match loc C x,glo C x with
  | none,some (.py .range)=>dE b
  | _,_=>none) else none
 | _=>none
noncomputable def xF (b:Bool) (r:Rk):List D:=if b then r.done else r.undone
noncomputable def xY (A i:Nat) (k:Rk->R):F:=fun ρ=>match ρ[i]? with
 | some (.rk C r)=>if C=A then k r else .bad
 | _=> .bad
noncomputable def aF3 (A i:Nat) (b:Bool):F:=xY A i fun r=> .ok (.lst (xF b r))
noncomputable def n6 (kvs:List (Str×D)) (x:Str):Option D:=(kvs.find? fun p=>decide (p.1=x)).map (·.2)
noncomputable def aF4 (neg:Bool) (A i:Nat) (f:F):F:=fun ρ=>(f ρ).bind fun d=>xY A i (fun r=>match d with
 | .str x=> .ok (.bl (neg != (n6 r.held x).isSome))
 | _=> .bad) ρ
noncomputable def tQ (A i:Nat) (f:F):F:=fun ρ=>xY A i (fun r=>(f ρ).bind fun d=>match d with
 | .str x=>(match n6 r.held x with | some d=> .ok d | none=> .bad)
 | _=> .bad) ρ
noncomputable def xZ (A i:Nat) (f:F):F:=fun ρ=>xY A i (fun r=>(f ρ).bind fun d=>match d with
 | .str x=> .ok ((n6 r.held x).getD .non)
 | _=> .bad) ρ
noncomputable def jK (A i:Nat) (m:FM) (fs:List F):F:=fun ρ=>xY A i (fun r=>nH fs ρ fun ds=>(m r ds).told) ρ
noncomputable def ltS (x y:Str):Bool:=decide (x.cps.toList<y.cps.toList)
noncomputable def aCu (x:Str):List Str->List Str
 | []=>[x]
 | y::l=>if ltS y x then y::aCu x l else x::y::l
noncomputable def kO:List Str->List Str
 | []=>[]
 | x::l=>aCu x (kO l)
noncomputable def aCv (A i:Nat):F:=xY A i fun r=>if r.held.length<64 then .ow ((kO (r.held.map (·.1))).map D.str) else .bad
noncomputable def x6:Expr->Option (Expr×Str×Pos)
 | .Attribute o f p=>some (o,f,p)
 | _=>none
noncomputable def atF (C:Ctx) (f:Str) (e:Expr):Option Nat:=(x6 e).bind fun(o,g,_)=>if g=f then(bJ o).bind fun(x,_)=>loc C x else none
noncomputable def aF5 (C:Ctx) (e:Expr):Option (Nat×Bool):=match atF C "done" e with
 | some i=>some (i,true)
 | none=>(atF C "undone" e).map fun i=>(i,false)
noncomputable def rkc (C:Ctx):Option (Nat×List (Str×Nat×FM)):=match C.tab.lookup ("Rack":Str) with
 | some (.cls a ms)=>some (a,ms)
 | _=>none
noncomputable def aLt:CmpOp->Option Bool
 | .In=>some false
 | .NotIn=>some true
 | _=>none
noncomputable def aH0 (dE:Expr->Option F) (C:Ctx) (A:Nat) (op:CmpOp) (a b:Expr):Option F:=match aLt op with
 | some neg=>(atF C "held" b).bind fun i=>(dE a).map fun f=>aF4 neg A i f
 | none=>(aF5 C a).bind fun(i,bb)=>(dE b).map fun g=>bW op (aF3 A i bb) g
noncomputable def aH1 (dE:Expr->Option F) (C:Ctx) (A:Nat) (ms:List (Str×Nat×FM)) (o:Expr) (m:Str) (as:List Expr):Option F:=match bJ o with
 | some (x,_)=>(loc C x).bind fun i=>(ms.lookup m).bind fun(n,M)=>if as.length<20 then(dO dE as).bind fun fs=>if fs.length=n then some (jK A i M fs) else none else none
 | none=>if m="get" then(atF C "held" o).bind fun i=>(one as).bind fun a=>(dE a).map fun g=>xZ A i g else none
noncomputable def aNt (C:Ctx) (A:Nat) (x:Str) (a:Expr):Option F:=match glo C x with
 | some (.py .sorted)=>(atF C "held" a).map fun i=>aCv A i
 | some (.py .len)=>(aF5 C a).map fun(i,bb)=>aD nI [aF3 A i bb]
 | _=>none
noncomputable def rkE (dE:Expr->Option F) (C:Ctx) (e:Expr):Option F:=match rkc C with
 | none=>none
 | some (A,ms)=>(match e with
  | .Compare a [op] cs _=>(one cs).bind fun b=>aH0 dE C A op a b
  | .Subscript a b _=>(atF C "held" a).bind fun i=>(dE b).map fun g=>tQ A i g
  | .Call f as kws cp=>if kws.isEmpty then(match f with
   | .Attribute o m ap=>if(ap.endLine==cp.line)=true then aH1 dE C A ms o m as else none
   | .Name x _=>(one as).bind fun a=>aNt C A x a
   | _=>none) else none
  | _=>none)
noncomputable def bsN (C:Ctx) (e:Expr):Bool:=match e with | .Name x _=>C.bs.contains x | _=>false
noncomputable def aCw (dE dL:Expr->Option F) (C:Ctx) (p:Py) (as:List Expr):Option F:=match p with
 | .len=>(one as).bind fun a=>(dL a).map fun f=>aD nI [f]
 | .int=>(one as).bind fun a=>(dL a).map fun f=>aD aHp [f]
 | .tuple=>(one as).bind fun a=>(dL a).map fun f=>aD mC [f]
 | .list=>(one as).bind fun a=>(dL a).map fun f=>aD aCn [f]
 | .sum=>(one as).bind fun a=>(dL a).map fun f=>aD xE [f]
 | .all=>(one as).bind fun a=>(dL a).map fun f=>aD aF2 [f]
 | .any=>(one as).bind fun a=>(dL a).map fun f=>aD aKk [f]
 | .abs=>none
 | .sorted=>none
 | .min=>none
 | .max=>none
 | .isin=>(two as).bind fun(a,b)=>(match aCs b with
  | some (t,t')=>(dE a).bind fun f=>(glo C t).bind fun g=>(isP g).bind fun P=>(glo C t').bind fun g'=>(isP g').map fun P'=>rIs (orP P P') f
  | none=>(bJ b).bind fun(t,_)=>(if bsN C a then dL a else dE a).bind fun f=>(glo C t).bind fun g=>(isP g).map fun P=>rIs P f)
 | _=>none
noncomputable def tR (dE:Expr->Option F) (C:Ctx) (tt:Bool) (x:Str) (as:List Expr):Option F:=match glo C x,as with
 | some (.py .range),[a]=>(dE a).map bN
 | some (.py .zip),[a,b]=>if tt then(dE a).bind fun f=>(dE b).map fun g=>aF1 f g else none
 | some (.py .enum),[a]=>if tt then(dE a).map rR else none
 | _,_=>none
noncomputable def mE (x:Str):Str:=x++"{}"
noncomputable def dnN (C:Ctx) (e:Expr):Option Nat:=(bJ e).bind fun(x,_)=>if C.bs.contains (mE x) then loc C x else none
noncomputable def aO1:CmpOp->Bool
 | .In=>true
 | .NotIn=>true
 | _=>false
noncomputable def inN (C:Ctx) (op:CmpOp) (e:Expr):Option Nat:=if aO1 op&&bsN C e then(bJ e).bind fun(x,_)=>loc C x else none
mutual
noncomputable def bA:Nat->Ctx->Expr->Option F
 | 0,_,_=>none
 | n+1,C,e=>match e with
  | .Name x _=>(match loc C x with
   | some i=>some (aB i)
   | none=>match glo C x with
    | some (.val d)=>some (rK d)
    | some (.fn k _ _)=>some (rK (.fn k))
    | _=>none)
  | .Constant c _ _=>(kD c).map rK
  | .BinOp a op b _=>(bA n C a).bind fun f=>(bA n C b).map fun g=>a9 op f g
  | .UnaryOp op a _=>(bA n C a).bind fun f=>(match op with | .Not=>some (hF f) | .USub=>some (aNj f) | _=>none)
  | .BoolOp op es p=>(match es with
   | [a,b]=>(bA n C a).bind fun f=>(bA n C b).map fun g=>(match op with | .And=>fI f g | .Or=>rOr f g)
   | a::b::c::r=>(bA n C a).bind fun f=>(bA n C (.BoolOp op (b::c::r) p)).map fun g=>(match op with | .And=>fI f g | .Or=>rOr f g)
   | _=>none)
  | .Compare a ops cs q=>(match rkE (bA n C) C (.Compare a ops cs q) with
   | some f=>some f
   | none=>match ops with
   | [op]=>(one cs).bind fun b=>(if bsN C a then sK n C a else bA n C a).bind fun f=>(match inN C op b with
    | some i=>some (aHu op f i)
    | none=>(if bsN C b then sK n C b else bA n C b).map fun g=>bW op f g)
   | [op,op']=>(two cs).bind fun(b,c)=>(bA n C a).bind fun f=>(bA n C b).bind fun g=>(bA n C c).map fun h=>jU op op' f g h
   | _=>none)
  | .IfExp c a b _=>(bA n C c).bind fun h=>(bA n C a).bind fun f=>(bA n C b).map fun g=>rIf h f g
  | .Tuple es _ _=>if es.length<=1000 then(dO (bA n C) es).map jH else none
  | .List es _=>if es.length<=1000 then(dO (bA n C) es).map eT else none
  | .Subscript a b q=>(match rkE (bA n C) C (.Subscript a b q) with
   | some f=>some f
   | none=>(sK n C a).bind fun f=>(match aAz b with
   | some (lo,hi)=>(match lo with
    | none=>some none
    | some l=>(bA n C l).map some).bind fun l=>(match hi with
    | none=>some none
    | some h=>(bA n C h).map some).map fun h=>aHn f l h
   | none=>(bA n C b).map fun g=>rIx f g))
  | .ListComp elt gens sc _=>(match gens with
   | [⟨tg,it,ifs,as⟩]=>if as=0 then(bR tg).bind fun(xs,k)=>(aCx n C (k != 0) it).bind fun fi=>if iQ sc xs then
     (dO (fun x=>dR C x) (aO sc)).bind fun cs=>(match ifs with
     | []=>some none
     | [c]=>(bA n { C with sc:=sc,N:=xs++aO sc } c).map some
     | _=>none).bind fun c=>(bA n { C with sc:=sc,N:=xs++aO sc } elt).map fun e=>bO k cs fi c e
    else none else none
   | _=>none)
  | .Call f as kws cp=>(match rkE (bA n C) C (.Call f as kws cp) with
   | some f=>some f
   | none=>(if kws.isEmpty then(match f with
   | .Name x _=>(match loc C x with
    | some _=>none
    | none=>(match glo C x with
     | some (.fn _ k f)=>if as.isEmpty then none else(dO (bA n C) as).bind fun fs=>if fs.length=k then some (aD f fs) else none
     | some (.py p)=>aCw (bA n C) (sK n C) C p as
     | _=>none))
   | _=>none) else none))
  | _=>none
noncomputable def sK:Nat->Ctx->Expr->Option F
 | 0,_,_=>none
 | n+1,C,e=>match e with
  | .Name x p=>(match loc C x with
   | some i=>some (aT i)
   | none=>bA n C (.Name x p))
  | e=>bA n C e
noncomputable def aCx:Nat->Ctx->Bool->Expr->Option F
 | 0,_,_,_=>none
 | n+1,C,tt,e=>match e with
  | .Call f as kws q=>(match f with
   | .Name x p=>(match loc C x,glo C x,kws with
    | none,some (.py .range),[]=>tR (bA n C) C tt x as
    | none,some (.py .zip),[]=>tR (bA n C) C tt x as
    | none,some (.py .enum),[]=>tR (bA n C) C tt x as
    | _,_,_=>bA n C (.Call (.Name x p) as kws q))
   | f=>bA n C (.Call f as kws q))
  | e=>(match dnN C e with | some i=>some (iO i) | none=>sK n C e)
end
noncomputable def gv:Nat->Expr->List Str
 | 0,_=>[]
 | n+1,e=>match e with
  | .Name x _=>[x]
  | .BinOp a _ b _=>gv n a++gv n b
  | .UnaryOp _ a _=>gv n a
  | .BoolOp _ as _=>as.flatMap (gv n)
  | .Compare a [_] [b] _=>(if aHy a then [] else gv n a)++(if aHy b then [] else gv n b)
  | .Compare a _ bs _=>gv n a++bs.flatMap (gv n)
  | .IfExp a b c _=>gv n a++gv n b++gv n c
  | .Tuple es _ _=>es.flatMap (gv n)
  | .List es _=>es.flatMap (gv n)
  | .Slice lo hi _ _=>(lo.map (gv n)).getD []++(hi.map (gv n)).getD []
  | .Subscript (.Name _ _) b _=>gv n b
  | .Subscript a b _=>gv n a++gv n b
  | .ListComp elt [⟨_, .Name _ _,ifs,_⟩] _ _=>ifs.flatMap (gv n)++gv n elt
  | .ListComp elt [⟨_,it,ifs,_⟩] _ _=>gv n it++ifs.flatMap (gv n)++gv n elt
  | .Call (.Name x _) as _ _=>if x="len"\/x="tuple"\/x="list"\/x="sum"\/x="sorted"\/x="all"\/x="any"\/x="isinstance" then
    as.flatMap fun a=>match a with | .Name _ _=>[] | a=>gv n a else x::as.flatMap (gv n)
  | .Call (.Attribute (.Name _ _) _ _) as _ _=>as.flatMap (gv n)
  | .Call (.Attribute o _ _) as _ _=>gv n o++as.flatMap (gv n)
  | .Call f as _ _=>gv n f++as.flatMap (gv n)
  | _=>[]
noncomputable def fJ (C:Ctx) (e:Expr):List Nat:=match C.bs with
 | []=>[]
 | _=>((gv 50 e).filter fun x=>C.bs.contains x).filterMap fun x=>loc C x
noncomputable def b9 (is:List Nat) (s:FS):FS:=match is with
 | []=>s
 | is=>aKl is s
noncomputable def tU:Nat->List Stmt->List Str
 | 0,_=>[]
 | n+1,ss=>ss.flatMap fun s=>match s with
  | .Assign [.Subscript (.Name x _) _ _] _ _=>[x]
  | .Assign [.Name x _] (.Dict [] [] _) _=>[mE x]
  | .Assign [.Tuple [_, .Name x _] _ _] (.Tuple [_, .Dict [] [] _] _ _) _=>[mE x]
  | .AugAssign (.Subscript (.Name x _) _ _) _ _ _=>[x]
  | .Assign [.Tuple [.Subscript (.Name x _) _ _,_] _ _] _ _=>[x]
  | .Expr (.Call (.Attribute (.Name x _) m _) _ _ _) _=>if m="append"\/m="extend"\/m="remove" then [x] else []
  | .If _ a b _=>tU n a++tU n b
  | .For _ _ b _ _=>tU n b
  | .While _ b _ _=>tU n b
  | .Return (some (.Name x _)) _=>if x="numbers" then [x] else []
  | _=>[]
noncomputable def tV:Expr->Bool
 | .Call _ _ _ _=>true
 | .Name _ _=>true
 | .Subscript _ _ _=>true
 | .ListComp _ _ _ _=>true
 | _=>false
noncomputable def aCy (C:Ctx) (x y:Str) (px py:Pos) (a b:Expr):Bool:=
 C.sc.names.lookup x==some .local&&C.sc.names.lookup y==some .local&&x != y&&px.line==py.line&& !([a,b].all (foldedForSure 8))&& !([a,b].all (constantsAlone 8))&& !C.bs.contains x&& !C.bs.contains y
noncomputable def kP (C:Ctx) (x y:Str):Bool:=(C.sc.names.lookup x==some .cell||C.sc.names.lookup y==some .cell)&& !C.bs.contains x&& !C.bs.contains y
noncomputable def aNu:Operator->Bool
 | .Add=>true
 | _=>false
noncomputable def aA0:Operator->Bool
 | .Add=>true
 | .Sub=>true
 | _=>false
noncomputable def aLu:Expr->Bool
 | .Dict ks vs _=>ks.isEmpty&&vs.isEmpty
 | _=>false
noncomputable def aNv (C:Ctx) (tt:Bool) (it:Expr):Option F:=match it with
 | .Name x p=>bA 50 C (.Name x p)
 | it=>aCx 50 C tt it
structure Par where
 x:Str
 px:Pos
 y:Str
 py:Pos
 a:Expr
 b:Expr
noncomputable def aKo (es:List Expr) (e:Expr):Option Par:=(two es).bind fun(u,v)=>(bJ u).bind fun(x,px)=>(bJ v).bind fun(y,py)=>(aCr e).bind fun(vs,_)=>(two vs).map fun(a,b)=>⟨x,px,y,py,a,b⟩
structure Par3 where
 x:Str
 px:Pos
 y:Str
 py:Pos
 z:Str
 pz:Pos
 a:Expr
 b:Expr
 c:Expr
noncomputable def aH2:List Expr->Option (Expr×Expr×Expr)
 | [a,b,c]=>some (a,b,c)
 | _=>none
noncomputable def aPr (es:List Expr) (e:Expr):Option Par3:=(aH2 es).bind fun(u,v,w)=>(bJ u).bind fun(x,px)=>(bJ v).bind fun(y,py)=>(bJ w).bind fun(z,pz)=>(aCr e).bind fun(vs,_)=>(aH2 vs).map fun(a,b,c)=>⟨x,px,y,py,z,pz,a,b,c⟩
noncomputable def aNw (C:Ctx) (q:Par3):Bool:=
 C.sc.names.lookup q.x==some .local&&C.sc.names.lookup q.y==some .local&&C.sc.names.lookup q.z==some .local&&q.x != q.y&&q.x != q.z&&q.y != q.z&&q.px.line==q.py.line&&q.px.line==q.pz.line&& !([q.a,q.b,q.c].all (foldedForSure 8))&& !([q.a,q.b,q.c].all (constantsAlone 8))&& !C.bs.contains q.x&& !C.bs.contains q.y&& !C.bs.contains q.z
noncomputable def aNx:Expr->Option (Str×Expr)
 | .Subscript o k _=>(bJ o).map fun(x,_)=>(x,k)
 | _=>none
noncomputable def aPs (es:List Expr) (e:Expr):Option (Str×Expr×Expr):=(two es).bind fun(u,v)=>(aNx u).bind fun(x,k)=>(aNx v).bind fun(y,l)=>(aCr e).bind fun(vs,_)=>(two vs).bind fun _=>if x=y then some (x,k,l) else none
noncomputable def aPt (es:List Expr) (e:Expr):Option (Str×Str×Expr):=(two es).bind fun(u,v)=>(bJ u).bind fun(x,_)=>(bJ v).bind fun(y,_)=>(aCr e).bind fun(vs,_)=>(two vs).bind fun(a,b)=>if aLu b then some (x,y,a) else none
noncomputable def aO2:List Stmt->Option Stmt
 | [s]=>some s
 | _=>none
noncomputable def aO3:Stmt->Option (Str×Str)
 | .Assign ts e _=>(one ts).bind fun t=>(bJ t).bind fun(x,_)=>(bJ e).map fun(y,_)=>(x,y)
 | _=>none
noncomputable def aPu (C:Ctx) (hs:List ExceptHandler):Option (Nat×Nat):=match hs with
 | [.ExceptHandler ty nm b _]=>ty.bind fun te=>nm.bind fun e=>(bJ te).bind fun(cx,_)=>(aO2 b).bind fun s=>(aO3 s).bind fun(x,e')=>(match loc C cx,glo C cx with
  | none,some (.exc c)=>if c=0/\e=e' then(loc C e).bind fun i=>(loc C x).bind fun j=>if C.sc.names.lookup e==some .local&&i != j&&C.bs.isEmpty then some (i,j) else none else none
  | _,_=>none)
 | _=>none
mutual
noncomputable def pO:Nat->Bool->Ctx->Stmt->Option FS
 | 0,_,_,_=>none
 | n+1,t,C,s=>match s with
  | .Pass _=>some bQ
  | .Break _=>some aNr
  | .Continue _=>some aHw
  | .Return v _=>(match v with
   | none=>some aHv
   | some e=>(match bJ e with
    | some (x,_)=>(match loc C x with
     | some i=>if C.bs.contains x then some (dG (tJ i)) else some (dG (aB i))
     | none=>(bA 50 C e).map dG)
    | none=>(bA 50 C e).map fun f=>b9 (fJ C e) (dG f)))
  | .Assign ts e _=>(one ts).bind fun tg=>(match tg with
   | .Name x _=>(loc C x).bind fun i=>if aLu e&&C.bs.contains x then some (aCq i) else(bA 50 C e).map fun f=>b9 (fJ C e) (if C.bs.contains x then iP i f else g0 i f)
   | .Tuple es a b=>(match aKo es e with
    | some ⟨x,px,y,py,a,b⟩=>if aCy C x y px py a b then(loc C x).bind fun i=>(loc C y).bind fun j=>(bA 50 C a).bind fun f=>(bA 50 C b).map fun g=>b9 (fJ C e) (jI [i,j] (jH [f,g])) else if kP C x y then(loc C x).bind fun i=>(loc C y).bind fun j=>(bA 50 C e).map fun f=>b9 (fJ C e) (jI [i,j] f) else none
    | none=>(if tV e then some () else none).bind fun _=>(bR (.Tuple es a b)).bind fun(xs,_)=>(dO (fun x=>loc C x) xs).bind fun is=>if xs.all (fun x=> !C.bs.contains x) then
     (bA 50 C e).map fun f=>b9 (fJ C e) (jI is f) else none)
   | .Subscript o k _=>(bJ o).bind fun(x,_)=>(loc C x).bind fun i=>if C.bs.contains x then(bA 50 C e).bind fun f=>(bA 50 C k).map fun g=>b9 (fJ C e++fJ C k) (aAy i g f) else none
   | _=>none)
  | .AugAssign tg op e _=>(match tg with | .Subscript o k _=>(bJ o).bind fun(x,_)=>(loc C x).bind fun i=>if C.bs.contains x&&aNu op then(bA 50 C e).bind fun f=>(bA 50 C k).map fun g=>b9 (fJ C e++fJ C k) (xX i g f) else none | tg=>(bJ tg).bind fun(x,_)=>(if aA0 op then some () else none).bind fun _=>(loc C x).bind fun i=>(bA 50 C e).map fun f=>b9 (fJ C e) (aKm i op f))
  | .Expr e _=>(match e with
   | .Call f as kws cp=>if kws.isEmpty then(match f with
    | .Attribute o m ap=>(bJ o).bind fun(x,_)=>(one as).bind fun e=>(loc C x).bind fun i=>if C.bs.contains x&&ap.endLine==cp.line then(bA 50 C e).bind fun f=>
      if m="append" then some (b9 (fJ C e) (lL i f)) else if m="extend" then some (b9 (fJ C e) (aHx i f)) else none else none
    | .Name x p=>(bA 50 C (.Call (.Name x p) as [] cp)).map fun f=>b9 (fJ C (.Call (.Name x p) as [] cp)) (kN f)
    | _=>none) else none
   | _=>none)
  | .If c a b _=>(bA 50 C c).bind fun f=>(jL n t C a).bind fun g=>(jL n t C b).map fun h=>b9 (fJ C c) (sIf f g h)
  | .For tg it b els _=>if t|| !els.isEmpty then none else((bR tg).bind fun(xs,k)=>(aNv C (k != 0) it).bind fun f=>(dO (fun x=>loc C x) xs).bind fun is=>if xs.all (fun x=> !C.bs.contains x) then
    (jL n t C b).map fun g=>b9 (fJ C it) (tP is (k==0) f g) else none)
  | .Raise x c _=>if t||c.isSome then none else x.bind fun e=>(match e with
   | .Call f as kws _=>if kws.isEmpty then(bJ f).bind fun(x,_)=>(one as).bind fun a=>if aCt a then(match loc C x,glo C x with
    | none,some (.exc c)=>some (fD c)
    | _,_=>none) else none else none
   | _=>none)
  | _=>none
noncomputable def jL:Nat->Bool->Ctx->List Stmt->Option FS
 | 0,_,_,_=>none
 | n+1,t,C,ss=>match ss with
  | []=>some bQ
  | [a]=>some ((pO n t C a).getD aKn)
  | a::r=>(jL n t C r).map fun g=>aV ((pO n t C a).getD aKn) g
end
noncomputable def eM (a:Arguments):Option (List Str):=if a.posonlyargs.isEmpty&&a.vararg.isNone&&a.kwonlyargs.isEmpty&&a.kwarg.isNone&&a.defaults.isEmpty then some (a.args.map (·.arg)) else none
noncomputable def aC (sc:Scope):List Str:=(sc.names.filter fun p=>p.2== .local||p.2== .cell).map (·.1)
noncomputable def bS (N P:List Str) (sc:Scope):Bool:=
 sc.kind== .function&& !sc.isCoroutine&& !sc.isGenerator&&decide N.Nodup&&decide (N.take P.length=P)&&
  P.all (fun x=>sc.names.lookup x==some .local||sc.names.lookup x==some .cell)&&sc.names.all (fun p=>p.2 != .free)&&N.all (fun x=>x != "__debug__"&&x != "__classdict__")
noncomputable def aCz (tab:List (Str×Gl)) (fns:List (Nat×Fn)) (s:Stmt):Option (Nat×Fn):=match s with
 | .FunctionDef _ as b _ _ _ sc _ _ _=>(eM as).bind fun P=>if bS (aC sc) P sc then
   (jL 100 false ⟨tab,fns,sc,aC sc,tU 50 b⟩ b).map fun g=>(P.length,fnOf (aC sc).length g) else none
 | _=>none
noncomputable def aH3 (g:Gl):D->Option Bool:=(isP g).getD fun _=>none
noncomputable def aH4:D->Option Bool:=aH3 (.py .int)
noncomputable def aC0:D->Option Bool:=aH3 (.py .bool)
noncomputable def fU:D->Option Bool:=aH3 (.py .tuple)
noncomputable def n9:D->Option Bool:=aH3 (.py .list)
noncomputable def aH5:D->Option Bool:=aH3 (.py .str)
mutual
noncomputable def bG:D->PyData
 | .non=> .none
 | .bl b=> .bool b
 | .int i=> .int i
 | .str x=> .str x
 | .tup xs=> .tuple (dA xs)
 | .lst xs=> .list (dA xs)
 | .exc _=> .none
 | .fn _=> .none
noncomputable def dA:List D->List PyData
 | []=>[]
 | x::xs=>bG x::dA xs
end
mutual
theorem gU: ∀ {d:D},plain d=true->(bG d).canLay0=true
 | .non,_=>by simp [bG,PyData.canLay0]
 | .bl _,_=>by simp [bG,PyData.canLay0]
 | .int _,_=>by simp [bG,PyData.canLay0]
 | .str x,h=>by
  unfold plain at h
  simp only [bG,PyData.canLay0]
  exact h
 | .tup xs,h=>by
  simp only [bG,PyData.canLay0]
  exact oA (by simpa [plain] using h)
 | .lst xs,h=>by
  simp only [bG,PyData.canLay0]
  exact oA (by simpa [plain] using h)
 | .exc _,h=>by simp [plain] at h
 | .fn _,h=>by simp [plain] at h
theorem oA: ∀ {ds:List D},a8 ds=true->PyData.canLayAll0 (dA ds)=true
 | [],_=>by simp [dA,PyData.canLayAll0]
 | d::ds,h=>by
  have h':plain d=true/\a8 ds=true:=by simpa [a8] using h
  simp only [dA,PyData.canLayAll0,gU h'.1,oA h'.2,Bool.and_self]
end
mutual
theorem gW: ∀ (d:D),(bG d).depth=dep d
 | .non=>by simp [bG,PyData.depth,dep]
 | .bl _=>by simp [bG,PyData.depth,dep]
 | .int _=>by simp [bG,PyData.depth,dep]
 | .str x=>by simp [bG,PyData.depth,dep]
 | .tup xs=>by simp [bG,PyData.depth,dep,oB xs]
 | .lst xs=>by simp [bG,PyData.depth,dep,oB xs]
 | .exc _=>by simp [bG,PyData.depth,dep]
 | .fn _=>by simp [bG,PyData.depth,dep]
theorem oB: ∀ (ds:List D),PyData.depthAll (dA ds)=xS ds
 | []=>by simp [dA,PyData.depthAll,xS]
 | d::ds=>by simp [dA,PyData.depthAll,xS,gW d,oB ds]
end
theorem aA1 (b:Bool):b2i b=if b then 1 else 0:=rfl
mutual
theorem gI: ∀ (x y:D),plain x=true->plain y=true->PyData.eqv (bG x) (bG y)=deq x y
 | .non,y,_,h=>by cases y<;>simp [plain] at h<;>simp [bG,PyData.eqv,deq]
 | .bl a,y,_,h=>by cases y<;>simp [plain] at h<;>simp [bG,PyData.eqv,deq,aA1]
 | .int a,y,_,h=>by cases y<;>simp [plain] at h<;>simp [bG,PyData.eqv,deq,aA1]
 | .str a,y,_,h=>by cases y<;>simp [plain] at h<;>simp [bG,PyData.eqv,deq]
 | .tup xs,y,g,h=>by
  cases y with
  | tup ys=>simpa [bG,PyData.eqv,deq] using kQ xs ys (by simpa [plain] using g) (by simpa [plain] using h)
  | _=>simp [plain] at h<;>simp [bG,PyData.eqv,deq]
 | .lst xs,y,g,h=>by
  cases y with
  | lst ys=>simpa [bG,PyData.eqv,deq] using kQ xs ys (by simpa [plain] using g) (by simpa [plain] using h)
  | _=>simp [plain] at h<;>simp [bG,PyData.eqv,deq]
 | .exc _,_,g,_=>by simp [plain] at g
 | .fn _,_,g,_=>by simp [plain] at g
theorem kQ: ∀ (xs ys:List D),a8 xs=true->a8 ys=true->PyData.eqvAll (dA xs) (dA ys)=rP xs ys
 | [],[],_,_=>by simp [dA,PyData.eqvAll,rP]
 | [],_::_,_,_=>by simp [dA,PyData.eqvAll,rP]
 | _::_,[],_,_=>by simp [dA,PyData.eqvAll,rP]
 | x::xs,y::ys,g,h=>by
  have g':plain x=true/\a8 xs=true:=by simpa [a8] using g
  have h':plain y=true/\a8 ys=true:=by simpa [a8] using h
  simp only [dA,PyData.eqvAll,rP,gI x y g'.1 h'.1,kQ xs ys g'.2 h'.2]
end
abbrev St:=L2.St
structure Ad where
 cls:Nat->Addr
 fnA:Nat->Addr
 nb:Nat
def mF (h:Heap) (x C:Addr):Prop:= ∃ o vs,h.get? x=some o/\o.cls= .ref C/\o.data= .fields vs
noncomputable def aLv (C a:Addr):HO:= .ext fun h=>mF h a C
section
variable (K:PySem.W.Frag) (ad:Ad)
mutual
noncomputable def Rep (G:Hp):D->V->Prop
 | .non,v=>v= .non
 | .bl b,v=>v= .bl b
 | .int i,v=>v= .int i
 | .str x,v=>v= .str x
 | .tup ds,v=> ∃ a vs,v= .ref a/\SqT K G a vs/\aF G ds vs
 | .lst ds,v=> ∃ a vs,v= .ref a/\SqL K G a vs/\aF G ds vs
 | .exc c,v=> ∃ a,v= .ref a/\G a=some (aLv (ad.cls c) a)
 | .fn k,v=>v= .ref (ad.fnA k)
noncomputable def aF (G:Hp):List D->List V->Prop
 | [],vs=>vs=[]
 | d::ds,vs=> ∃ v r,vs=v::r/\Rep G d v/\aF G ds r
end
end
section
variable {K:PySem.W.Frag} {ad:Ad} {G G' H H':Hp}
theorem _root_.L2.Same.seqT {K:PySem.W.Frag} {H H':Hp} {a:Addr} {xs:List V} (e:Same H H') (h:SqT K H a xs):SqT K H' a xs:=by
 rcases h with (h | ⟨o,h⟩) | h
 ·exact .inl (.inl (e _ _ h))
 ·exact .inl (.inr ⟨o,e _ _ h⟩)
 ·exact .inr h
mutual
theorem Rep.mono (e:Same G G'): ∀ {d:D} {v:V},Rep K ad G d v->Rep K ad G' d v
 | .non,_,h=>h
 | .bl _,_,h=>h
 | .int _,_,h=>h
 | .str _,_,h=>h
 | .tup ds,v,h=>by
  unfold Rep at h ⊢
  obtain⟨a,vs,h1,h2,h3⟩:=h
  exact⟨a,vs,h1,e.seqT h2,aF.mono e h3⟩
 | .lst ds,v,h=>by
  unfold Rep at h ⊢
  obtain⟨a,vs,h1,h2,h3⟩:=h
  exact⟨a,vs,h1,e.seq h2,aF.mono e h3⟩
 | .exc _,_,h=>by
  unfold Rep at h ⊢
  obtain⟨a,h1,h2⟩:=h
  exact⟨a,h1,e _ _ h2⟩
 | .fn _,_,h=>h
theorem aF.mono (e:Same G G'): ∀ {ds:List D} {vs:List V},aF K ad G ds vs->aF K ad G' ds vs
 | [],_,h=>h
 | d::ds,vs,h=>by
  unfold aF at h ⊢
  obtain⟨v,r,h1,h2,h3⟩:=h
  exact⟨v,r,h1,Rep.mono e h2,aF.mono e h3⟩
end
theorem aF.length: ∀ {ds:List D} {vs:List V},aF K ad G ds vs->vs.length=ds.length
 | [],_,h=>by
  unfold aF at h
  subst h
  rfl
 | d::ds,vs,h=>by
  unfold aF at h
  obtain⟨v,r,rfl,_,h3⟩:=h
  simp [aF.length h3]
theorem aF.nil:aF K ad G [] []:=by unfold aF;rfl
theorem aF.cons {d:D} {v:V} {ds:List D} {vs:List V} (h:Rep K ad G d v) (t:aF K ad G ds vs):aF K ad G (d::ds) (v::vs):=by
 unfold aF
 exact⟨v,vs,rfl,h,t⟩
theorem aF.get: ∀ {ds:List D} {vs:List V} {i:Nat} {d:D},aF K ad G ds vs->ds[i]? =some d-> ∃ v,vs[i]? =some v/\Rep K ad G d v
 | [],_,_,_,_,e=>by simp at e
 | d::ds,vs,i,d',h,e=>by
  unfold aF at h
  obtain⟨v,r,rfl,h2,h3⟩:=h
  cases i with
  | zero=>
   simp at e
   subst e
   exact⟨v,rfl,h2⟩
  | succ i=>
   obtain⟨w,a,b⟩:=aF.get (i:=i) (d:=d') h3 (by simpa using e)
   exact⟨w,by simpa using a,b⟩
theorem aF.append: ∀ {ds es:List D} {vs ws:List V},aF K ad G ds vs->aF K ad G es ws->aF K ad G (ds++es) (vs++ws)
 | [],_,_,_,h,t=>by
  unfold aF at h
  subst h
  exact t
 | d::ds,es,vs,ws,h,t=>by
  unfold aF at h
  obtain⟨v,r,rfl,h2,h3⟩:=h
  exact aF.cons h2 (aF.append h3 t)
theorem aF.drop: ∀ (n:Nat) {ds:List D} {vs:List V},aF K ad G ds vs->aF K ad G (ds.drop n) (vs.drop n)
 | 0,_,_,h=>h
 | n+1,[],_,h=>by
  unfold aF at h
  subst h
  exact aF.nil
 | n+1,d::ds,vs,h=>by
  unfold aF at h
  obtain⟨v,r,rfl,h2,h3⟩:=h
  exact aF.drop n h3
theorem aF.take: ∀ (n:Nat) {ds:List D} {vs:List V},aF K ad G ds vs->aF K ad G (ds.take n) (vs.take n)
 | 0,_,_,_=>aF.nil
 | n+1,[],_,h=>by
  unfold aF at h
  subst h
  exact aF.nil
 | n+1,d::ds,vs,h=>by
  unfold aF at h
  obtain⟨v,r,rfl,h2,h3⟩:=h
  exact aF.cons h2 (aF.take n h3)
theorem aF.set {d:D} {v:V} (q:Rep K ad G d v): ∀ (n:Nat) {ds:List D} {vs:List V},aF K ad G ds vs->aF K ad G (ds.set n d) (vs.set n v)
 | _,[],_,h=>by
  unfold aF at h
  subst h
  exact aF.nil
 | 0,_::ds,vs,h=>by
  unfold aF at h
  obtain⟨w,r,rfl,h2,h3⟩:=h
  exact aF.cons q h3
 | n+1,e::ds,vs,h=>by
  unfold aF at h
  obtain⟨w,r,rfl,h2,h3⟩:=h
  exact aF.cons h2 (aF.set q n h3)
theorem aF.rep {ds:List D} {vs:List V} (h:aF K ad G ds vs): ∀ k:Nat,aF K ad G (ak k ds).flatten (ak k vs).flatten
 | 0=>aF.nil
 | k+1=>by
  simp only [List.replicate_succ,List.flatten_cons]
  exact aF.append h (aF.rep h k)
theorem aF.map_int: ∀ {ns:List Int},aF K ad G (ns.map D.int) (ns.map V.int)
 | []=>aF.nil
 | _::_=>aF.cons (by unfold Rep;rfl) aF.map_int
structure Step (G H G' H':Hp):Prop where
 sg:Same G G'
 gh:Same G' H'
 sh:Same H H'
 nw: ∀ b,G b=none->G' b≠none->H b=none
theorem mG (e:Same H H') {b:Addr} (h:H' b=none):H b=none:=e.free h
theorem Step.refl (h:Same G H):Step G H G H:=⟨Same.refl _,h,Same.refl _,fun b h1 h2=>absurd h1 h2⟩
theorem Step.trans {G1 H1 G2 H2:Hp} (a:Step G H G1 H1) (b:Step G1 H1 G2 H2):Step G H G2 H2:=
 ⟨a.sg.trans b.sg,b.gh,a.sh.trans b.sh,fun x h1 h2=>by
  cases q:G1 x with
  | none=>exact a.sh.free (b.nw x q h2)
  | some o=>exact a.nw x h1 (by rw [q];exact fun z=>nomatch z)⟩
theorem Same.upd_new {p:Addr} {o:HO} (h:H p=none):Same H (upd H p o):=fun b u e=>by rw [aA (aN e h)];exact e
theorem Step.new {p:Addr} {o:HO} (h:Same G H) (n:H p=none):Step G H (upd G p o) (upd H p o):=by
 have gn:G p=none:=h.free n
 refine⟨Same.upd_new gn,fun b u e=> ?_,Same.upd_new n,fun b h1 h2=> ?_⟩
 ·by_cases q:b=p
  ·subst q
   rw [aE] at e ⊢
   exact e
  ·rw [aA q] at e ⊢
   exact h b u e
 ·by_cases q:b=p
  ·subst q
   exact n
  ·rw [aA q] at h2
   exact absurd h1 h2
theorem Step.own {p:Addr} {o:HO} (h:Same G H) (n:H p=none):Step G H G (upd H p o):=
 ⟨Same.refl _,h.trans (Same.upd_new n),Same.upd_new n,fun b h1 h2=>absurd h1 h2⟩
theorem Step.shareO {p:Addr} {o:HO} (s:Step G H G' H') (n:H p=none) (m:G' p=none) (e:H' p=some o):Step G H (upd G' p o) H':=by
 refine⟨s.sg.trans (Same.upd_new m),fun b u q=> ?_,s.sh,fun b h1 h2=> ?_⟩
 ·by_cases z:b=p
  ·subst z
   rw [aE] at q
   rw [e]
   exact q
  ·rw [aA z] at q
   exact s.gh b u q
 ·by_cases z:b=p
  ·subst z
   exact n
  ·rw [aA z] at h2
   exact s.nw b h1 h2
theorem Step.share {p:Addr} {vs:List V} (s:Step G H G' H') (n:H p=none) (m:G' p=none) (e:H' p=some (.lst vs)):Step G H (upd G' p (.lst vs)) H':=s.shareO n m e
mutual
noncomputable def hD:D->Int
 | .non=>0xFCA86420
 | .int i=>hashInt i
 | .tup xs=>reduceHash (Builtin.Tuple.tupleHashOf (hDs xs))
 | _=>0
noncomputable def hDs:List D->List Int
 | []=>[]
 | x::xs=>hD x::hDs xs
end
def aLw (h:Heap) (a:Addr) (es:Nat×List (Int×Addr×V)):Prop:=(a==sysModules)=false/\es.2.length<=200000/\ ∃ o ar xs,h.get? a=some o/\o.ExactDict/\o.data= .dict ar es.1/\ar.toList=xs.map (fun x:Int×Addr×Value=>(⟨x.1, .ref x.2.1,x.2.2⟩:DictEntry))/\
 Paired (fun(p:Int×Addr×V) (q:Int×Addr×Value)=>p.1=q.1/\p.2.1=q.2.1/\aP p.2.2 q.2.2) es.2 xs
noncomputable def dcO (a:Addr) (es:Nat×List (Int×Addr×V)):HO:= .ext fun h=>aLw h a es
noncomputable def DL (K:PySem.W.Frag) (ad:Ad) (G:Hp):List (D×D)->List (Int×Addr×V)->Prop:=Paired fun p q=>q.1=hD p.1/\Rep K ad G p.1 (.ref q.2.1)/\Rep K ad G p.2 q.2.2
def DR (K:PySem.W.Frag) (ad:Ad) (G:Hp) (kvs:List (D×D)) (es:Nat×List (Int×Addr×V)):Prop:=DL K ad G kvs es.2
def KOk (kvs:List (D×D)):Prop:=(∀ p∈kvs,cJ p.1=true)/\kvs.Pairwise fun p q=>deq p.1 q.1=false
theorem DR.mono {K:PySem.W.Frag} {ad:Ad} {G G':Hp} {kvs:List (D×D)} {es:Nat×List (Int×Addr×V)} (h:DR K ad G kvs es) (e:Same G G'):DR K ad G' kvs es:=Paired.mapP h fun _ _ z=>⟨z.1,z.2.1.mono e,z.2.2.mono e⟩
noncomputable def HR (K:PySem.W.Frag) (ad:Ad) (G:Hp):List (Str×D)->List (Key×V)->Prop:=Paired fun p q=>q.1=Sum.inr p.1/\Rep K ad G p.2 q.2
theorem HR.mono {K:PySem.W.Frag} {ad:Ad} {G G':Hp} {ps:List (Str×D)} {qs:List (Key×V)} (h:HR K ad G ps qs) (e:Same G G'):HR K ad G' ps qs:=Paired.mapP h fun _ _ z=>⟨z.1,z.2.mono e⟩
structure RackIn (K:PySem.W.Frag) (ad:Ad) (C:Addr) (G H:Hp) (p:Addr) (r:Rk) (dx d l1 l2:Addr):Prop where
 ins:H p=some (.ins C dx [("held", .ref d),("done", .ref l1),("undone", .ref l2)])
 own:H dx=some (.own p)
 held: ∃ kvs,H d=some (.dK kvs)/\HR K ad G r.held kvs
 done: ∃ vs,H l1=some (.lst vs)/\aF K ad G r.done vs
 undone: ∃ vs,H l2=some (.lst vs)/\aF K ad G r.undone vs
 ne:l1≠l2
 gp:G p=none
 gx:G dx=none
 gd:G d=none
 g1:G l1=none
 g2:G l2=none
theorem Step.gnone {G H G' H':Hp} (st:Step G H G' H') {b:Addr} {o:HO} (g:G b=none) (h:H b=some o):G' b=none:=by
 cases q:G' b with
 | none=>rfl
 | some o'=>
  have:=st.nw b g (by rw [q];exact fun z=>nomatch z)
  rw [h] at this
  cases this
theorem RackIn.step {K:PySem.W.Frag} {ad:Ad} {C:Addr} {G H G' H':Hp} {p:Addr} {r:Rk} {dx d l1 l2:Addr} (h:RackIn K ad C G H p r dx d l1 l2) (st:Step G H G' H'):RackIn K ad C G' H' p r dx d l1 l2:=by
 obtain⟨kvs,a1,a2⟩:=h.held
 obtain⟨v1,b1,b2⟩:=h.done
 obtain⟨v2,c1,c2⟩:=h.undone
 exact⟨st.sh _ _ h.ins,st.sh _ _ h.own,⟨kvs,st.sh _ _ a1,a2.mono st.sg⟩,⟨v1,st.sh _ _ b1,b2.mono st.sg⟩,⟨v2,st.sh _ _ c1,c2.mono st.sg⟩,h.ne,st.gnone h.gp h.ins,st.gnone h.gx h.own,st.gnone h.gd a1,st.gnone h.g1 b1,st.gnone h.g2 c1⟩
theorem RackIn.up {K:PySem.W.Frag} {ad:Ad} {C:Addr} {G H H':Hp} {p:Addr} {r:Rk} {dx d l1 l2:Addr} (h:RackIn K ad C G H p r dx d l1 l2) (s:Same H H'):RackIn K ad C G H' p r dx d l1 l2:=by
 obtain⟨kvs,a1,a2⟩:=h.held
 obtain⟨v1,b1,b2⟩:=h.done
 obtain⟨v2,c1,c2⟩:=h.undone
 exact⟨s _ _ h.ins,s _ _ h.own,⟨kvs,s _ _ a1,a2⟩,⟨v1,s _ _ b1,b2⟩,⟨v2,s _ _ c1,c2⟩,h.ne,h.gp,h.gx,h.gd,h.g1,h.g2⟩
noncomputable def SLi (K:PySem.W.Frag) (ad:Ad) (G H:Hp):Slot->Option V->Prop
 | .no,_=>True
 | .sh d,ov=> ∃ v,ov=some v/\Rep K ad G d v
 | .ow xs,ov=> ∃ a vs,ov=some (.ref a)/\G a=none/\H a=some (.lst vs)/\aF K ad G xs vs
 | .dc kvs,ov=> ∃ a es,ov=some (.ref a)/\G a=none/\H a=some (dcO a es)/\DR K ad G kvs es/\KOk kvs
 | .sd kvs,ov=> ∃ a es,ov=some (.ref a)/\G a=some (dcO a es)/\H a=some (dcO a es)/\DR K ad G kvs es/\KOk kvs
 | .rk C r,ov=> ∃ p dx d l1 l2,ov=some (.ref p)/\RackIn K ad C G H p r dx d l1 l2
structure SL (K:PySem.W.Frag) (ad:Ad) (G H:Hp) (ρ:Rho) (σ:St):Prop where
 len:ρ.length=σ.length
 at_: ∀ (i:Nat) (s:Slot),ρ[i]? =some s-> ∃ ov,σ[i]? =some ov/\SLi K ad G H s ov
theorem SLi.step (st:Step G H G' H'): ∀ {s:Slot} {ov:Option V},SLi K ad G H s ov->SLi K ad G' H' s ov
 | .no,_,_=>trivial
 | .sh d,_,⟨v,h1,h2⟩=>⟨v,h1,h2.mono st.sg⟩
 | .ow xs,_,⟨a,vs,h1,h2,h3,h4⟩=>by
  refine⟨a,vs,h1, ?_,st.sh _ _ h3,h4.mono st.sg⟩
  cases q:G' a with
  | none=>rfl
  | some o=>
   have:=st.nw a h2 (by rw [q];exact fun z=>nomatch z)
   rw [h3] at this
   cases this
 | .dc kvs,_,⟨a,es,h1,h2,h3,h4,h5⟩=>by
  refine⟨a,es,h1, ?_,st.sh _ _ h3,h4.mono st.sg,h5⟩
  cases q:G' a with
  | none=>rfl
  | some o=>
   have:=st.nw a h2 (by rw [q];exact fun z=>nomatch z)
   rw [h3] at this
   cases this
 | .sd kvs,_,⟨a,es,h1,h2,h3,h4,h5⟩=>⟨a,es,h1,st.sg _ _ h2,st.sh _ _ h3,h4.mono st.sg,h5⟩
 | .rk C r,_,⟨p,dx,d,l1,l2,h1,h2⟩=>⟨p,dx,d,l1,l2,h1,h2.step st⟩
theorem SL.step {ρ:Rho} {σ:St} (h:SL K ad G H ρ σ) (st:Step G H G' H'):SL K ad G' H' ρ σ:=
 ⟨h.len,fun i s e=>let ⟨ov,h1,h2⟩:=h.at_ i s e;⟨ov,h1,h2.step st⟩⟩
theorem SL.sh {ρ:Rho} {σ:St} {i:Nat} {d:D} (h:SL K ad G H ρ σ) (e:ρ[i]? =some (.sh d)): ∃ v,σ[i]? =some (some v)/\Rep K ad G d v:=by
 obtain⟨ov,h1,v,rfl,h3⟩:=h.at_ i _ e
 exact⟨v,h1,h3⟩
theorem SL.ow {ρ:Rho} {σ:St} {i:Nat} {xs:List D} (h:SL K ad G H ρ σ) (e:ρ[i]? =some (.ow xs)): ∃ a vs,σ[i]? =some (some (.ref a))/\G a=none/\H a=some (.lst vs)/\aF K ad G xs vs:=by
 obtain⟨ov,h1,a,vs,rfl,h3⟩:=h.at_ i _ e
 exact⟨a,vs,h1,h3⟩
theorem SL.dc {ρ:Rho} {σ:St} {i:Nat} {kvs:List (D×D)} (h:SL K ad G H ρ σ) (e:ρ[i]? =some (.dc kvs)): ∃ a es,σ[i]? =some (some (.ref a))/\G a=none/\H a=some (dcO a es)/\DR K ad G kvs es/\KOk kvs:=by
 obtain⟨ov,h1,a,es,rfl,h3⟩:=h.at_ i _ e
 exact⟨a,es,h1,h3⟩
theorem SL.sd {ρ:Rho} {σ:St} {i:Nat} {kvs:List (D×D)} (h:SL K ad G H ρ σ) (e:ρ[i]? =some (.sd kvs)): ∃ a es,σ[i]? =some (some (.ref a))/\G a=some (dcO a es)/\H a=some (dcO a es)/\DR K ad G kvs es/\KOk kvs:=by
 obtain⟨ov,h1,a,es,rfl,h3⟩:=h.at_ i _ e
 exact⟨a,es,h1,h3⟩
theorem SL.rk {ρ:Rho} {σ:St} {i C:Nat} {r:Rk} (h:SL K ad G H ρ σ) (e:ρ[i]? =some (.rk C r)): ∃ p dx d l1 l2,σ[i]? =some (some (.ref p))/\RackIn K ad C G H p r dx d l1 l2:=by
 obtain⟨ov,h1,p,dx,d,l1,l2,rfl,h3⟩:=h.at_ i _ e
 exact⟨p,dx,d,l1,l2,h1,h3⟩
def RK (K:PySem.W.Frag) (ad:Ad) (G H:Hp) (r:R) (Q:VK) (E:Nat->Hp->Prop):Prop:=match r with
 | .ok d=> ∀ v G' H',Step G H G' H'->Rep K ad G' d v->Q v H'
 | .ow xs=> ∀ p vs G' H',Step G H G' H'->H p=none->G' p=none->H' p=some (.lst vs)->aF K ad G' xs vs->Q (.ref p) H'
 | .ex c=> ∀ G' H',Step G H G' H'->E c H'
 | .bad=>False
theorem RK.step {r:R} {Q:VK} {E:Nat->Hp->Prop} (h:RK K ad G H r Q E) (st:Step G H G' H'):RK K ad G' H' r Q E:=by
 cases r with
 | ok d=>exact fun v G2 H2 s2 q=>h v G2 H2 (st.trans s2) q
 | ow xs=>exact fun p vs G2 H2 s2 n m e q=>h p vs G2 H2 (st.trans s2) (st.sh.free n) m e q
 | ex c=>exact fun G2 H2 s2=>h G2 H2 (st.trans s2)
 | bad=>exact h
theorem RK.ok_now {d:D} {v:V} {Q:VK} {E:Nat->Hp->Prop} (h:RK K ad G H (.ok d) Q E) (e:Same G H) (q:Rep K ad G d v):Q v H:=h v G H (Step.refl e) q
theorem RK.ow_new {xs:List D} {vs:List V} {p:Addr} {Q:VK} {E:Nat->Hp->Prop} (h:RK K ad G H (.ow xs) Q E) (e:Same G H) (q:aF K ad G xs vs) (n:H p=none):Q (.ref p) (upd H p (.lst vs)):=
 h p vs G (upd H p (.lst vs)) (Step.own e n) n (e.free n) aE q
theorem RK.tup_new {xs:List D} {vs:List V} {p:Addr} {Q:VK} {E:Nat->Hp->Prop} (h:RK K ad G H (.ok (.tup xs)) Q E) (e:Same G H) (q:aF K ad G xs vs) (n:H p=none):Q (.ref p) (upd H p (.tup vs)):=by
 refine h (.ref p) (upd G p (.tup vs)) (upd H p (.tup vs)) (Step.new e n) ?_
 unfold Rep
 exact⟨p,vs,rfl,SqT.of aE,q.mono (Same.upd_new (e.free n))⟩
end
noncomputable def CXe (P:Program) (w:World):CXT:=fun outer H s E e s'=>
 ∃ (ea:Addr) (cls a0:Value) (H':Hp) (B:Heap),e= .ref ea/\s'.os=s.os/\AllBare s'.gens/\Heap.FlyingW B outer ea cls a0 s'.heap/\Un (frs outer) [] H H' s.heap s'.heap/\
  HOk P w H' s'.heap/\H' ea=none/\(∀ b o,s.heap.get? b=some o->b∉frs outer-> ∃ o',B.get? b=some o')/\(∀ b o,H' b=some o-> ∃ o',B.get? b=some o')/\E cls none H'
noncomputable def xk (ad:Ad) (E:Nat->Hp->Prop):XK:=fun cls _ H'=> ∃ c,cls= .ref (ad.cls c)/\E c H'
def XP (X:Cx) (ad:Ad) (σ:St) (E:Nat->Hp->Prop):Prop:=
 ∀ (pins:List (Addr×Obj)) (H:Hp) (s:Shared) (e:Value) (s':Shared),Inv X pins σ H s->CXe X.prog X.w X.stack H s (xk ad E) e s'->X.xe e s'
noncomputable def tE (X:Cx) (ad:Ad) (f:F):TE:=fun σ H Q=> ∃ G ρ E,Same G H/\SL X.K ad G H ρ σ/\XP X ad σ E/\RK X.K ad G H (f ρ) Q E
abbrev ME (X:Cx) (ad:Ad) (e:Expr) (f:F):Prop:=PE X e (tE X ad f)
def jV (r:R):Prop:=(∃ b,r= .ok (.bl b))\/ ∃ c,r= .ex c
noncomputable def tT (X:Cx) (ad:Ad) (f:F):TT:=fun σ H Q=> ∃ G ρ E,Same G H/\SL X.K ad G H ρ σ/\XP X ad σ E/\jV (f ρ)/\RK X.K ad G H (f ρ) (fun v H'=> ∃ b,v= .bl b/\Q b H') E
abbrev MT (X:Cx) (ad:Ad) (e:Expr) (f:F):Prop:=PT X e (tT X ad f)
abbrev MW (X:Cx) (ad:Ad) (e:Expr) (f:F):Prop:=PW X e (tT X ad f)
def AK (K:PySem.W.Frag) (ad:Ad) (G H:Hp) (r:RA) (Q:List V->Hp->Prop) (E:Nat->Hp->Prop):Prop:=match r with
 | .ok ds=> ∀ vs G' H',Step G H G' H'->aF K ad G' ds vs->Q vs H'
 | .ex c=> ∀ G' H',Step G H G' H'->E c H'
 | .bad=>False
noncomputable def tA (X:Cx) (ad:Ad) (fs:List F):TA:=fun σ H Q=> ∃ G ρ E,Same G H/\SL X.K ad G H ρ σ/\XP X ad σ E/\AK X.K ad G H (args fs ρ) Q E
abbrev MA (X:Cx) (ad:Ad) (es:List Expr) (fs:List F):Prop:=PA X es (tA X ad fs)
section
variable {X:Cx} {ad:Ad} {pins:List (Addr×Obj)} {s:Shared} {σ:St} {H G:Hp} {ρ:Rho} {Q:VK} {E:Nat->Hp->Prop} {pos:Pos} {a b c:Expr} {f g h:F}
theorem bF {xs:List D} {p:Addr} {vs:List V} {G1 H1:Hp} (st:Step G H G1 H1) (n:H p=none) (m:G1 p=none) (e:H1 p=some (.lst vs)) (q:aF X.K ad G1 xs vs):
  ∃ G2,Step G H G2 H1/\Rep X.K ad G2 (.lst xs) (.ref p):=by
 refine⟨upd G1 p (.lst vs),st.share n m e, ?_⟩
 unfold Rep
 exact⟨p,vs,rfl,SqL.of aE,q.mono (Same.upd_new m)⟩
theorem ME.thn {k:D->R} (ha:ME X ad a f) (I:Inv X pins σ H s) (hG:Same G H) (hS:SL X.K ad G H ρ σ) (hx:XP X ad σ E) (hr:RK X.K ad G H ((f ρ).bind k) Q E):
  wpAny (model X.prog X.w) X.A (eval a X.env) (fun u s1=> ∃ v d G1 H1,Inv X pins σ H1 s1/\aP v u/\Step G H G1 H1/\Rep X.K ad G1 d v/\RK X.K ad G1 H1 (k d) Q E) X.xe s:=by
 cases e:f ρ with
 | ok d=>
  rw [e] at hr
  refine L2.thn (ha pins s σ H (fun v H1=> ∃ G1,Step G H G1 H1/\Rep X.K ad G1 d v) I ⟨G,ρ,E,hG,hS,hx,by rw [e];exact fun v G1 H1 st q=>⟨G1,st,q⟩⟩) fun u s1 ⟨v,H1,I1,r1,G1,st,q⟩=> ?_
  exact⟨v,d,G1,H1,I1,r1,st,q,RK.step hr st⟩
 | ow xs=>
  rw [e] at hr
  refine L2.thn (ha pins s σ H (fun v H1=> ∃ G1,Step G H G1 H1/\Rep X.K ad G1 (.lst xs) v) I ⟨G,ρ,E,hG,hS,hx,by rw [e];exact fun p vs G1 H1 st n m e' q=>bF st n m e' q⟩) fun u s1 ⟨v,H1,I1,r1,G1,st,q⟩=> ?_
  exact⟨v, .lst xs,G1,H1,I1,r1,st,q,RK.step hr st⟩
 | ex c=>
  rw [e] at hr
  refine L2.thn (ha pins s σ H (fun v H1=>False) I ⟨G,ρ,E,hG,hS,hx,by rw [e];exact hr⟩) fun u s1 ⟨v,H1,I1,r1,q⟩=>q.elim
 | bad=>
  rw [e] at hr
  exact az hr
theorem aQ {i:Int}:Rep X.K ad G (.int i) (.int i):=by unfold Rep;rfl
theorem aS {i:Bool}:Rep X.K ad G (.bl i) (.bl i):=by unfold Rep;rfl
theorem aC1:Rep X.K ad G .non .non:=by unfold Rep;rfl
theorem aC2 {i:Str}:Rep X.K ad G (.str i) (.str i):=by unfold Rep;rfl
theorem tW {i:Nat} {x:Str} (hN:X.N[i]? =some x) (hv:Vis X.env.scope x) (hd:(x==("__debug__":Str))=false) (hcd:(x==("__classdict__":Str))=false):ME X ad (.Name x pos) (aB i):=by
 intro pins s σ H Q I ⟨G,ρ,E,hG,hS,hx,hr⟩
 unfold aB at hr
 cases e:ρ[i]? with
 | none=>
  rw [e] at hr
  exact hr.elim
 | some sl=>
  rw [e] at hr
  cases sl with
  | no=>exact hr.elim
  | dc kvs=>exact hr.elim
  | sd kvs=>exact hr.elim
  | rk _ _=>exact hr.elim
  | ow xs=>exact hr.elim
  | sh d=>
   obtain⟨v,h1,h2⟩:=hS.sh e
   exact aZ hN hv hd hcd pins s σ H Q I ⟨v,h1,hr.ok_now hG h2⟩
def MLk (X:Cx) (ad:Ad) (e:Expr) (f:F):Prop:=
 ∀ (pins:List (Addr×Obj)) (s:Shared) (σ:St) (H G:Hp) (ρ:Rho) (k:D->R) (Q:VK) (E:Nat->Hp->Prop),Inv X pins σ H s->Same G H->SL X.K ad G H ρ σ->XP X ad σ E->RK X.K ad G H ((f ρ).bind k) Q E->
  wpAny (model X.prog X.w) X.A (eval e X.env) (fun u s1=> ∃ v d G1 H1,Inv X pins σ H1 s1/\aP v u/\Step G H G1 H1/\(Rep X.K ad G1 d v\/ ∃ a vs ds,d= .lst ds/\v= .ref a/\G1 a=none/\H1 a=some (.lst vs)/\aF X.K ad G1 ds vs)/\RK X.K ad G1 H1 (k d) Q E) X.xe s
theorem ME.look (ha:ME X ad a f):MLk X ad a f:=by
 intro pins s σ H G ρ k Q E I hG hS hx hr
 exact L2.thn (ha.thn I hG hS hx hr) fun u s1 ⟨v,d,G1,H1,I1,r1,st,q,z⟩=>⟨v,d,G1,H1,I1,r1,st, .inl q,z⟩
theorem x8 {k:Const} {j:Nat} {d:D} (e:kD k=some d):ME X ad (.Constant k j pos) (rK d):=by
 intro pins s σ H Q I ⟨G,ρ,E,hG,hS,hx,hr⟩
 cases k with
 | int i=>cases e;exact aGi pins s σ H Q I (hr.ok_now hG aQ)
 | bool i=>cases e;exact aK2 pins s σ H Q I (hr.ok_now hG aS)
 | none=>cases e;exact aGj pins s σ H Q I (hr.ok_now hG aC1)
 | str i=>cases e;exact aGk pins s σ H Q I (hr.ok_now hG aC2)
 | float _=>cases e
 | complex _ _=>cases e
 | bytes _=>cases e
 | ellipsis=>cases e
theorem tY {x:Str} {d:D} {u:Value} {v:V} (hg:L2.Gl X x) (hm:X.mg x=some u) (r:aP v u) (q: ∀ G,Rep X.K ad G d v) (hd:(x==("__debug__":Str))=false):ME X ad (.Name x pos) (rK d):=by
 intro pins s σ H Q I ⟨G,ρ,E,hG,hS,hx,hr⟩
 exact aB4 hg hm r hd pins s σ H Q I (hr.ok_now hG (q G))
def DOp (X:Cx) (ad:Ad) (t:Value->Value->Sem Value) (r:D->D->R):Prop:=
 ∀ (pins:List (Addr×Obj)) (s:Shared) (σ:St) (H G:Hp) (x y:D) (v w:V) (u z:Value) (Q:VK) (E:Nat->Hp->Prop),Inv X pins σ H s->Same G H->Rep X.K ad G x v->Rep X.K ad G y w->aP v u->aP w z->
  RK X.K ad G H (r x y) Q E->wpAny (model X.prog X.w) X.A (t u z) (EP X pins σ Q) X.xe s
theorem aH6 {t:Value->Value->Sem Value} {r:D->D->R} (ho:DOp X ad t r) (ha:ME X ad a f) (hb:ME X ad b g) (I:Inv X pins σ H s) (hG:Same G H) (hS:SL X.K ad G H ρ σ) (hx:XP X ad σ E)
  (hr:RK X.K ad G H ((f ρ).bind fun x=>(g ρ).bind fun y=>r x y) Q E):
  wpAny (model X.prog X.w) X.A (eval a X.env) (fun v s₁=>wpAny (model X.prog X.w) X.A (eval b X.env) (fun u s₂=>wpAny (model X.prog X.w) X.A (t v u) (EP X pins σ Q) X.xe s₂) X.xe s₁) X.xe s:=by
 refine L2.thn (ha.thn I hG hS hx hr) fun u s1 hz_=> ?_
 obtain⟨v,d,G1,H1,I1,r1,st1,q1,hr1⟩:=hz_
 refine L2.thn (hb.thn I1 st1.gh (hS.step st1) hx hr1) fun z s2 hz_=> ?_
 obtain⟨w,e,G2,H2,I2,r2,st2,q2,hr2⟩:=hz_
 exact ho pins s2 σ H2 G2 d e v w u z Q E I2 st2.gh (q1.mono st2.sg) q2 r1 r2 hr2
end
section
variable {X:Cx} {ad:Ad} {pins:List (Addr×Obj)} {s:Shared} {σ:St} {H G:Hp} {ρ:Rho} {Q:VK} {E:Nat->Hp->Prop} {pos:Pos} {a b c:Expr} {f g h:F}
theorem pQ {n:Nat} (h:n<=LIM):n<=sizeLine:=Nat.le_trans h (by decide)
theorem oC {i:Int} (h:sml i=true): -(2 ^ 64)<i/\i<2 ^ 64:=by
 unfold sml at h
 rw [av] at h
 exact⟨of_decide_eq_true h.1,of_decide_eq_true h.2⟩
theorem kR {i:Int} (h:sml i=true):i.natAbs<2 ^ 64:=by
 obtain⟨h1,h2⟩:=oC h
 omega
theorem sub_int_bool {prog:Program} {w:World} {A:Around} {Ex:Value->Shared->Prop} {s:Shared} {i:Int} {t:Tok} {k:Bool} {Q:Value->Shared->Prop} (h:Q (.int (i - SK.b2i k) s.toks) { s with toks:=s.toks+1 }):
  wpAny (model prog w) A (binaryOp .Sub (.int i t) (.bool k)) Q Ex s:=PySem.IntBool.sub_int_bool h
theorem add_int_bool {prog:Program} {w:World} {A:Around} {Ex:Value->Shared->Prop} {s:Shared} {i:Int} {t:Tok} {k:Bool} {Q:Value->Shared->Prop} (h:Q (.int (i+SK.b2i k) s.toks) { s with toks:=s.toks+1 }):
  wpAny (model prog w) A (binaryOp .Add (.int i t) (.bool k)) Q Ex s:=PySem.add_int_bool h
theorem aC3 {prog:Program} {w:World} {A:Around} {Ex:Value->Shared->Prop} {s:Shared} {t b:Addr} {ws:List Value} {Q:Value->Shared->Prop} (ht:IsTup s.heap t #[]) (hb:IsTup s.heap b ws.toArray) (h:Q (.ref b) s):
  wpAny (model prog w) A (binaryOp .Add (.ref t) (.ref b)) Q Ex s:=by
 obtain⟨⟨cls,dd,data,sl⟩,ho,hc,n,hd⟩:=id ht
 obtain⟨⟨cls2,dd2,data2,sl2⟩,ho2,hc2,n2,hd2⟩:=id hb
 simp only at hc hd hc2 hd2
 subst hc hd hc2 hd2
 exact concat_meets ⟨_,ho,rfl⟩ ⟨_,ho2,rfl⟩ noFill_tuple_add seq_tuple_add PySem.F.slot_tuple_add PySem.F.entry_tuple_add (PySem.F.args_tuple_add_2 _ _)
   (tuple_addW0 t b #[] ws.toArray n n2 dd dd2 sl sl2 rfl) ⟨ho,ho2,h⟩
theorem gJ (its:List Value) (m:Nat):List.foldl (fun x1 x2=>x1++x2) #[] (ak m its.toArray)=(ak m its).flatten.toArray:=by
 have:=l7 its m []
 rw [List.nil_append] at this
 exact this
theorem aC4 {t:Addr} {k:Int} {u:Tok} {xs:List V} {its:List Value} (I:Inv X pins σ H s) (ht:IsTup s.heap t its.toArray) (r:aY xs its) (h0: -1000000<k) (h1:k<1000000) (hz:xs.length * k.toNat<=sizeLine)
  (q: ∀ p,(p=t/\(ak k.toNat xs).flatten=xs->Q (.ref p) H)/\(H p=none->Q (.ref p) (upd H p (.tup (ak k.toNat xs).flatten)))):
  wpAny (model X.prog X.w) X.A (binaryOp .Mult (.ref t) (.int k u)) (EP X pins σ Q) X.xe s:=by
 obtain⟨⟨cls,dd,data,sl⟩,e,hc,n,hd⟩:=id ht
 simp only at hc hd
 subst hc hd
 have hov:(decide (k< -(2 ^ 63))||decide (k≥2 ^ 63))=false:=by
  rw [Bool.or_eq_false_iff]
  exact⟨decide_eq_false (by omega),decide_eq_false (by omega)⟩
 have hlen:its.length * k.toNat<=sizeLine:=by rw [<-r.length];exact hz
 have lrep:(ak k.toNat xs).flatten.length<=sizeLine:=by rw [nU,Nat.mul_comm];exact hz
 refine wpAny_binaryOp_repeat_ref (T:="tuple") (U:="int") (by decide) ⟨_,e,rfl⟩ (fun s'=>typeIs_int s' k u) gZ F.fills_int_mul F.slot_int_rmul mB F.slot_int_index.lookup
  (call_meets F.slot_int_rmul (typeIs_int s k u) F.entry_int_rmul (F.args_int_rmul_2 _ _) (fC k u t its.toArray n "tuple" dd sl (.inr rfl))
   ⟨e,rfl,⟨_,e,rfl⟩, ?_⟩)
 by_cases c0:(its.toArray.isEmpty||k==1)=true
 ·refine call_meets F.slot_tuple_mul ⟨_,e,rfl⟩ F.entry_tuple_mul (F.args_tuple_mul_2 _ _) (nV t its.toArray n k u dd sl hov c0) ⟨e, ?_⟩
  refine⟨.ref t,H,I,rfl,(q t).1 ⟨rfl, ?_⟩⟩
  rcases(Bool.or_eq_true _ _).mp c0 with z | z
  ·have:its=[]:=by simpa using z
   have:xs=[]:=r.nil_iff.mp this
   subst this
   simp
  ·have:k=1:=by simpa using z
   subst this
   simp
 ·by_cases c1:(decide (k<=0)||its.toArray.isEmpty)=true
  ·refine call_meets F.slot_tuple_mul ⟨_,e,rfl⟩ F.entry_tuple_mul (F.args_tuple_mul_2 _ _) (nW t its.toArray n k u dd sl hov c0 c1) ⟨e, ?_⟩
   have k0:k.toNat=0:=by
    rcases(Bool.or_eq_true _ _).mp c1 with z | z
    ·have:=of_decide_eq_true z
     omega
    ·exact absurd (by rw [z];rfl) c0
   have q2:=(q s.heap.objs.size).2 (I.hok.fresh (aj _))
   rw [k0] at q2
   refine⟨.ref s.heap.objs.size,_,I.laid (t':=s.toks) (o:= .tup []) (fun b ob q=>af _ q) (aj _) ?_,rfl,q2⟩
   exact⟨bu _,[], .nil,IsTup.new _ _,⟨_,ag _ rfl,rfl⟩⟩
  ·have kp:0<k:=by
    rw [Bool.or_eq_true,not_or] at c1
    have:=c1.1
    rw [decide_eq_true_iff] at this
    omega
   have kk:(k.toNat:Int)=k:=by omega
   have hm:(its.toArray.size:Int) * k=((its.length * k.toNat:Nat):Int):=by rw [Int.natCast_mul,kk,aw]
   have hs:(sizeLine:Nat)<=(2 ^ 63 - 1) / 8:=by decide
   refine call_meets F.slot_tuple_mul ⟨_,e,rfl⟩ F.entry_tuple_mul (F.args_tuple_mul_2 _ _) (nX t its.toArray n k u dd sl hov c0 c1 ?_ ?_ ?_) ⟨e, ?_⟩
   ·rw [hm]
    have:((its.length * k.toNat:Nat):Int)<=((2 ^ 63 - 1) / 8:Int):=by
     have:=Nat.le_trans hlen hs
     omega
    omega
   ·rw [hm]
    unfold Builtin.Tuple.tupleTooMany
    simp only [decide_eq_true_eq,gt_iff_lt,Int.not_lt]
    exact Int.ofNat_le.mpr hlen
   ·rw [gJ,aw,nU,Nat.mul_comm]
    exact hlen
   ·rw [gJ]
    refine⟨.ref s.heap.objs.size,_,I.laid (t':=s.toks) (o:= .tup (ak k.toNat xs).flatten) (fun b ob q=>af _ q) (aj _) ?_,rfl,(q _).2 (I.hok.fresh (aj _))⟩
    exact⟨lrep,_,r.rep k.toNat,IsTup.new _ _,⟨_,ag _ rfl,rfl⟩⟩
theorem aC5 {l b:Addr} {xs ys:List V} (I:Inv X pins σ H s) (hl:SqL X.K H l xs) (hb:SqL X.K H b ys) (hz:xs.length+ys.length<=sizeLine) (q: ∀ p,H p=none->Q (.ref p) (upd H p (.lst (xs++ys)))):
  wpAny (model X.prog X.w) X.A (binaryOp .Add (.ref l) (.ref b)) (EP X pins σ Q) X.xe s:=by
 obtain⟨its,r1,⟨⟨cls,dd,data,sl⟩,n,ho,hc,hdd,hd⟩,_⟩:=I.list hl
 obtain⟨its2,r2,⟨⟨cls2,dd2,data2,sl2⟩,n2,ho2,hc2,hdd2,hd2⟩,_⟩:=I.list hb
 simp only at hc hd hc2 hd2 hdd hdd2
 subst hc hd hc2 hd2
 have e:its.toArray++its2.toArray=(its++its2).toArray:=by simp
 refine concat_meets ⟨_,ho,rfl⟩ ⟨_,ho2,rfl⟩ noFill_list_add seq_list_add PySem.F.slot_list_add PySem.F.entry_list_add (PySem.F.args_list_add_2 _ _)
   (list_addW l b its.toArray its2.toArray n n2 dd dd2 sl sl2 (by rw [aw,aw, <-r1.length, <-r2.length];exact hz)) ⟨ho,ho2, ?_⟩
 rw [e]
 exact⟨.ref _,_,I.lnew (t':=s.toks) (r1.append r2) (by rw [bo];exact hz),rfl,q _ I.fresh⟩
theorem aC6 {l:Addr} {k:Int} {u:Tok} {xs:List V} (I:Inv X pins σ H s) (hl:SqL X.K H l xs) (h0: -1000000<k) (h1:k<1000000) (hz:xs.length * k.toNat<=sizeLine) (q: ∀ p,H p=none->Q (.ref p) (upd H p (.lst (ak k.toNat xs).flatten))):
  wpAny (model X.prog X.w) X.A (binaryOp .Mult (.ref l) (.int k u)) (EP X pins σ Q) X.xe s:=by
 obtain⟨its,r,⟨⟨cls,dd,data,sl⟩,n,e,hc,hdd,hd⟩,_⟩:=I.list hl
 simp only at hc hd hdd
 subst hc hd
 have hlen:its.toArray.size * k.toNat<=sizeLine:=by rw [aw, <-r.length];exact hz
 have hcap: ¬ its.toArray.size * k.toNat > (2 ^ 63 - 1) / 8:=by
  have:(sizeLine:Nat)<=(2 ^ 63 - 1) / 8:=by decide
  omega
 have hfit: ¬ (!Builtin.List.listFitsIndex k)=true:=by
  rw [fitsIndex_both (by omega) (by omega)]
  exact bf
 have hlong: ¬ Builtin.List.listTooLong (its.toArray.size * k.toNat)=true:=by
  rw [pK hlen]
  exact bf
 have hnew:List.foldl (fun x1 x2=>x1++x2) #[] (ak (if its.toArray.isEmpty=true then 0 else k.toNat) its.toArray)=(ak k.toNat its).flatten.toArray:=by
  rw [gJ]
  cases its with
  | nil=>simp
  | cons a r'=>rw [if_neg (by simp)]
 refine wpAny_binaryOp_repeat_ref (T:="list") (U:="int") (by decide) ⟨_,e,rfl⟩ (fun s'=>typeIs_int s' k u) noFill_list_mul F.fills_int_mul F.slot_int_rmul repeat_list F.slot_int_index.lookup
  (call_meets F.slot_int_rmul (typeIs_int s k u) F.entry_int_rmul (F.args_int_rmul_2 _ _) (fC k u l its.toArray n "list" dd sl (.inl rfl))
   ⟨e,rfl,⟨_,e,rfl⟩,call_meets F.slot_list_mul ⟨_,e,rfl⟩ F.entry_list_mul (F.args_list_mul_2 _ _) (tG l its.toArray n k u dd sl hfit hcap hlong) ⟨e, ?_⟩⟩)
 rw [hnew]
 exact⟨.ref _,_,I.lnew (t':=s.toks) (r.rep k.toNat) (by rw [nU,Nat.mul_comm];exact hz),rfl,q _ I.fresh⟩
theorem aC7 (op:Operator):DOp X ad (binaryOp op) (kM op):=by
 intro pins s σ H G x y v w u z Q E I hG rx ry ru rz hr
 cases x with
 | int i=>
  unfold Rep at rx
  subst rx
  cases y with
  | int j=>
   unfold Rep at ry
   subst ry
   cases op with
   | Add=>exact aG3 pins s σ H _ _ u z Q I ru rz ⟨i,j,rfl,rfl,hr.ok_now hG aQ⟩
   | Sub=>exact aG4 pins s σ H _ _ u z Q I ru rz ⟨i,j,rfl,rfl,hr.ok_now hG aQ⟩
   | Mult=>
    have hr':RK X.K ad G H (if sml i||sml j then R.ok (.int (i * j)) else .bad) Q E:=hr
    by_cases hc:(sml i||sml j)=true
    ·rw [if_pos hc] at hr'
     refine aG5 pins s σ H _ _ u z Q I ru rz ⟨i,j,rfl,rfl, ?_,hr'.ok_now hG aQ⟩
     rcases(Bool.or_eq_true _ _).mp hc with h | h
     ·exact .inl (oC h)
     ·exact .inr (oC h)
    ·rw [if_neg hc] at hr'
     exact hr'.elim
   | FloorDiv=>
    have hr':RK X.K ad G H (if 0<j/\j<1073741824 then R.ok (.int (i / j)) else .bad) Q E:=hr
    by_cases hc:0<j/\j<1073741824
    ·rw [if_pos hc] at hr'
     exact aCa pins s σ H _ _ u z Q I ru rz ⟨i,j,rfl,rfl,hc,hr'.ok_now hG aQ⟩
    ·rw [if_neg hc] at hr'
     exact hr'.elim
   | Mod=>
    have hr':RK X.K ad G H (if 0<j then R.ok (.int (i % j)) else .bad) Q E:=hr
    by_cases hc:0<j
    ·rw [if_pos hc] at hr'
     exact aG6 pins s σ H _ _ u z Q I ru rz ⟨i,j,rfl,rfl,hc,hr'.ok_now hG aQ⟩
    ·rw [if_neg hc] at hr'
     exact hr'.elim
   | LShift=>
    have hr':RK X.K ad G H (if 0<=j/\j<=1000/\sml i=true then R.ok (.int (i * 2 ^ j.toNat)) else .bad) Q E:=hr
    by_cases hc:0<=j/\j<=1000/\sml i=true
    ·rw [if_pos hc] at hr'
     exact aG7 pins s σ H _ _ u z Q I ru rz ⟨i,j,rfl,rfl,⟨hc.1,by omega,kR hc.2.2⟩,hr'.ok_now hG aQ⟩
    ·rw [if_neg hc] at hr'
     exact hr'.elim
   | RShift=>
    have hr':RK X.K ad G H (if 0<=j then R.ok (.int (i / 2 ^ j.toNat)) else .bad) Q E:=hr
    by_cases hc:0<=j
    ·rw [if_pos hc] at hr'
     exact aG8 pins s σ H _ _ u z Q I ru rz ⟨i,j,rfl,rfl,hc,hr'.ok_now hG aQ⟩
    ·rw [if_neg hc] at hr'
     exact hr'.elim
   | BitAnd=>exact aG9 pins s σ H _ _ u z Q I ru rz ⟨i,j,rfl,rfl,hr.ok_now hG aQ⟩
   | BitOr=>exact aLc pins s σ H _ _ u z Q I ru rz ⟨i,j,rfl,rfl,hr.ok_now hG aQ⟩
   | BitXor=>exact aHa pins s σ H _ _ u z Q I ru rz ⟨i,j,rfl,rfl,hr.ok_now hG aQ⟩
   | MatMult=>exact az hr
   | Div=>exact az hr
   | Pow=>exact az hr
  | bl k=>
   unfold Rep at ry
   subst ry
   obtain⟨t,rfl⟩:=ru
   cases (show z=Value.bool k from rz)
   cases op with
   | Sub=>exact sub_int_bool ⟨.int _,H,I.tok _,⟨_,rfl⟩,hr.ok_now hG aQ⟩
   | Add=>exact add_int_bool ⟨.int _,H,I.tok _,⟨_,rfl⟩,hr.ok_now hG aQ⟩
   | _=>exact az hr
  | _=>cases op<;>exact az hr
 | tup xs=>
  unfold Rep at rx
  obtain⟨p,vs,rfl,hp,rp⟩:=rx
  cases y with
  | tup ys=>
   unfold Rep at ry
   obtain⟨q,ws,rfl,hq,rq⟩:=ry
   cases op with
   | Add=>
    have hr':RK X.K ad G H (if xs.length+ys.length<=LIM then R.ok (.tup (xs++ys)) else .bad) Q E:=hr
    by_cases hc:xs.length+ys.length<=LIM
    ·rw [if_pos hc] at hr'
     have l1:=rp.length
     have l2:=rq.length
     by_cases hv:vs=[]
     ·subst hv
      cases (show u=Value.ref p from ru)
      cases (show z=Value.ref q from rz)
      obtain⟨its,r1,p1,_⟩:=I.tuple (hG.seqT hp)
      obtain⟨its2,r2,p2,_⟩:=I.tuple (hG.seqT hq)
      cases r1
      refine aC3 p1 p2 ⟨.ref q,H,I,rfl,hr'.ok_now hG ?_⟩
      have:xs=[]:=by simpa using l1.symm
      subst this
      unfold Rep
      exact⟨q,ws,rfl,hq,rq⟩
     ·refine aCg pins s σ H _ _ u z Q I ru rz ⟨p,q,vs,ws,rfl,rfl,hG.seqT hp,hG.seqT hq,hv,by rw [l1,l2];exact pQ hc,fun hw=> ?_,fun hw a ha=> ?_⟩
      ·subst hw
       have:ys=[]:=by simpa using l2.symm
       subst this
       refine hr'.ok_now hG ?_
       unfold Rep
       exact⟨p,vs,rfl,hp,by rw [List.append_nil];exact rp⟩
      ·exact hr'.tup_new hG (rp.append rq) ha
    ·rw [if_neg hc] at hr'
     exact hr'.elim
   | _=>exact az hr
  | int k=>
   unfold Rep at ry
   subst ry
   cases op with
   | Mult=>
    have hr':RK X.K ad G H (if -1000000<k/\k<1000000/\xs.length * k.toNat<=LIM then R.ok (.tup (aKj xs k)) else .bad) Q E:=hr
    by_cases hc: -1000000<k/\k<1000000/\xs.length * k.toNat<=LIM
    ·rw [if_pos hc] at hr'
     cases (show u=Value.ref p from ru)
     obtain⟨t,rfl⟩:=rz
     obtain⟨its,r1,p1,_⟩:=I.tuple (hG.seqT hp)
     refine aC4 I p1 r1 hc.1 hc.2.1 (by rw [rp.length];exact pQ hc.2.2) fun a=>⟨fun⟨e1,e2⟩=> ?_,fun ha=> ?_⟩
     ·subst e1
      refine hr'.ok_now hG ?_
      unfold Rep
      exact⟨a,vs,rfl,hp,by rw [<-e2];exact rp.rep k.toNat⟩
     ·exact hr'.tup_new hG (rp.rep k.toNat) ha
    ·rw [if_neg hc] at hr'
     exact hr'.elim
   | _=>exact az hr
  | _=>cases op<;>exact az hr
 | lst xs=>
  unfold Rep at rx
  obtain⟨p,vs,rfl,hp,rp⟩:=rx
  cases y with
  | lst ys=>
   unfold Rep at ry
   obtain⟨q,ws,rfl,hq,rq⟩:=ry
   cases op with
   | Add=>
    have hr':RK X.K ad G H (if xs.length+ys.length<=LIM then R.ow (xs++ys) else .bad) Q E:=hr
    by_cases hc:xs.length+ys.length<=LIM
    ·rw [if_pos hc] at hr'
     cases (show u=Value.ref p from ru)
     cases (show z=Value.ref q from rz)
     exact aC5 I (hG.seq hp) (hG.seq hq) (by rw [rp.length,rq.length];exact pQ hc) fun a ha=>hr'.ow_new hG (rp.append rq) ha
    ·rw [if_neg hc] at hr'
     exact hr'.elim
   | _=>exact az hr
  | int k=>
   unfold Rep at ry
   subst ry
   cases op with
   | Mult=>
    have hr':RK X.K ad G H (if -1000000<k/\k<1000000/\xs.length * k.toNat<=LIM then R.ow (aKj xs k) else .bad) Q E:=hr
    by_cases hc: -1000000<k/\k<1000000/\xs.length * k.toNat<=LIM
    ·rw [if_pos hc] at hr'
     cases (show u=Value.ref p from ru)
     obtain⟨t,rfl⟩:=rz
     exact aC6 I (hG.seq hp) hc.1 hc.2.1 (by rw [rp.length];exact pQ hc.2.2) fun a ha=>hr'.ow_new hG (rp.rep k.toNat) ha
    ·rw [if_neg hc] at hr'
     exact hr'.elim
   | _=>exact az hr
  | _=>cases op<;>exact az hr
 | _=>cases y<;>cases op<;>exact az hr
theorem aH7 {op:Operator} (ha:ME X ad a f) (hb:ME X ad b g):ME X ad (.BinOp a op b pos) (a9 op f g):=by
 intro pins s σ H Q I ⟨G,ρ,E,hG,hS,hx,hr⟩
 exact wpAny_BinOp (aH6 (aC7 op) ha hb I hG hS hx hr)
end
section
variable {X:Cx} {ad:Ad} {pins:List (Addr×Obj)} {s:Shared} {σ:St} {H G:Hp} {ρ:Rho} {Q:VK} {E:Nat->Hp->Prop} {pos:Pos} {a b c:Expr} {f g h:F}
mutual
theorem dC (I:Inv X pins σ H s) (hG:Same G H): ∀ {d:D} {v:V} {u:Value},plain d=true->Rep X.K ad G d v->aP v u-> ∃ as,Reads s.heap u (bG d) as
 | .non,v,u,_,h,r=>by
  unfold Rep at h;subst h
  cases r
  unfold bG
  exact⟨_, .none⟩
 | .bl b,v,u,_,h,r=>by
  unfold Rep at h;subst h
  cases r
  unfold bG
  exact⟨_, .bool b⟩
 | .int i,v,u,_,h,r=>by
  unfold Rep at h;subst h
  obtain⟨t,rfl⟩:=r
  unfold bG
  exact⟨_, .int i t⟩
 | .str x,v,u,_,h,r=>by
  unfold Rep at h;subst h
  obtain⟨t,rfl⟩:=r
  unfold bG
  exact⟨_, .str x t⟩
 | .tup ds,v,u,p,h,r=>by
  unfold Rep at h
  obtain⟨a,vs,rfl,h2,h3⟩:=h
  cases r
  obtain⟨its,rv,⟨o,ho,hc,n,hd⟩,_⟩:=I.tuple (hG.seqT h2)
  obtain⟨as,ra⟩:=fK I hG (by simpa [plain] using p) h3 rv
  unfold bG
  exact⟨_, .tuple ho hc hd (by simpa using ra)⟩
 | .lst ds,v,u,p,h,r=>by
  unfold Rep at h
  obtain⟨a,vs,rfl,h2,h3⟩:=h
  cases r
  obtain⟨its,rv,⟨o,n,ho,hc,_,hd⟩,_⟩:=I.list (hG.seq h2)
  obtain⟨as,ra⟩:=fK I hG (by simpa [plain] using p) h3 rv
  unfold bG
  exact⟨_, .list ho hc hd (by simpa using ra)⟩
 | .exc _,_,_,p,_,_=>by simp [plain] at p
 | .fn _,_,_,p,_,_=>by simp [plain] at p
theorem fK (I:Inv X pins σ H s) (hG:Same G H): ∀ {ds:List D} {vs:List V} {us:List Value},a8 ds=true->aF X.K ad G ds vs->aY vs us-> ∃ as,ReadsAll s.heap us (dA ds) as
 | [],vs,us,_,h,r=>by
  unfold aF at h;subst h
  cases r
  unfold dA
  exact⟨_, .nil⟩
 | d::ds,vs,us,p,h,r=>by
  unfold aF at h
  obtain⟨v,r',rfl,h2,h3⟩:=h
  have p':plain d=true/\a8 ds=true:=by simpa [a8] using p
  cases r with
  | cons r1 r2=>
   obtain⟨as,q1⟩:=dC I hG p'.1 h2 r1
   obtain⟨bs,q2⟩:=fK I hG p'.2 h3 r2
   unfold dA
   exact⟨_, .cons q1 q2⟩
end
theorem hJ {x y:D} (h:jS x y=true):plain x=true/\plain y=true/\min (dep x) (dep y)<=60:=by
 unfold jS at h
 rw [av,av] at h
 exact⟨h.1.1,h.1.2,of_decide_eq_true h.2⟩
theorem aC8 {A:Around} {x y:D} {v w:V} {u z:Value} (hu:A.units+61<cLine) (I:Inv X pins σ H s) (hG:Same G H) (h:jS x y=true) (rx:Rep X.K ad G x v) (ry:Rep X.K ad G y w) (ru:aP v u) (rz:aP w z):
  SeqAt.EqAt A s u z (deq x y):=by
 obtain⟨p1,p2,p3⟩:=hJ h
 obtain⟨as,q1⟩:=dC I hG p1 rx ru
 obtain⟨bs,q2⟩:=dC I hG p2 ry rz
 rw [<-gI x y p1 p2]
 exact SeqAt.eqAt_reads (bG x) (bG y) A s u z as bs q1 q2 (gU p1) (gU p2) (by rw [gW,gW];omega)
theorem oE {M:Model} {A:Around} {Ex:Value->Shared->Prop} {s:Shared} {Q:Value->Shared->Prop} {v:V} {u:Value} {b:Bool} (r:aP v u) (h:Q (.bool (decide (v= .bl b))) s):wpAny M A (compareOp .Is u (.bool b)) Q Ex s:=by
 cases v with
 | bl a=>
  cases (show u=Value.bool a from r)
  refine ae (show Q (.bool (Value.bool a==Value.bool b)) s from ?_)
  have e:(Value.bool a==Value.bool b)=decide (V.bl a=V.bl b):=by cases a<;>cases b<;>rfl
  rw [e];exact h
 | non=>cases (show u=Value.none from r);exact ae h
 | int i=>obtain⟨t,rfl⟩:=r;exact ae h
 | str i=>obtain⟨t,rfl⟩:=r;exact ae h
 | byt i=>obtain⟨t,rfl⟩:=r;exact ae h
 | flt i=>obtain⟨t,rfl⟩:=r;exact ae h
 | ref p=>cases (show u=Value.ref p from r);exact ae h
 | ty p=>cases (show u=Value.type p from r);exact ae h
theorem jM {M:Model} {A:Around} {Ex:Value->Shared->Prop} {s:Shared} {Q:Value->Shared->Prop} {v:V} {u:Value} {b:Bool} (r:aP v u) (h:Q (.bool (!decide (v= .bl b))) s):wpAny M A (compareOp .IsNot u (.bool b)) Q Ex s:=by
 cases v with
 | bl a=>
  cases (show u=Value.bool a from r)
  refine ae (show Q (.bool (!(Value.bool a==Value.bool b))) s from ?_)
  have e:(Value.bool a==Value.bool b)=decide (V.bl a=V.bl b):=by cases a<;>cases b<;>rfl
  rw [e];exact h
 | non=>cases (show u=Value.none from r);exact ae h
 | int i=>obtain⟨t,rfl⟩:=r;exact ae h
 | str i=>obtain⟨t,rfl⟩:=r;exact ae h
 | byt i=>obtain⟨t,rfl⟩:=r;exact ae h
 | flt i=>obtain⟨t,rfl⟩:=r;exact ae h
 | ref p=>cases (show u=Value.ref p from r);exact ae h
 | ty p=>cases (show u=Value.type p from r);exact ae h
theorem mH {x:D} {v:V} {b:Bool} (r:Rep X.K ad G x v):decide (v= .bl b)=aLl b x:=by
 cases x with
 | bl a=>unfold Rep at r;subst r;cases a<;>cases b<;>rfl
 | non=>unfold Rep at r;subst r;rfl
 | int _=>unfold Rep at r;subst r;rfl
 | str _=>unfold Rep at r;subst r;rfl
 | tup _=>unfold Rep at r;obtain⟨p,_,rfl,_⟩:=r;rfl
 | lst _=>unfold Rep at r;obtain⟨p,_,rfl,_⟩:=r;rfl
 | exc _=>unfold Rep at r;obtain⟨p,rfl,_⟩:=r;rfl
 | fn _=>unfold Rep at r;subst r;rfl
theorem jW {x:D} {v:V} (r:Rep X.K ad G x v):decide (v= .non)=aCm x:=by
 cases x with
 | bl a=>unfold Rep at r;subst r;rfl
 | non=>unfold Rep at r;subst r;rfl
 | int _=>unfold Rep at r;subst r;rfl
 | str _=>unfold Rep at r;subst r;rfl
 | tup _=>unfold Rep at r;obtain⟨p,_,rfl,_⟩:=r;rfl
 | lst _=>unfold Rep at r;obtain⟨p,_,rfl,_⟩:=r;rfl
 | exc _=>unfold Rep at r;obtain⟨p,rfl,_⟩:=r;rfl
 | fn _=>unfold Rep at r;subst r;rfl
theorem iR {y:D} {ys:List D} {w:V} (e:items y=some ys) (r:Rep X.K ad G y w): ∃ a vs,w= .ref a/\(SqT X.K G a vs\/SqL X.K G a vs)/\aF X.K ad G ys vs:=by
 cases y with
 | tup _=>cases e;unfold Rep at r;obtain⟨a,vs,h1,h2,h3⟩:=r;exact⟨a,vs,h1, .inl h2,h3⟩
 | lst _=>cases e;unfold Rep at r;obtain⟨a,vs,h1,h2,h3⟩:=r;exact⟨a,vs,h1, .inr h2,h3⟩
 | _=>cases e
theorem pR: ∀ {ys:List D} {vs:List V} {us:List Value},aF X.K ad G ys vs->aY vs us-> ∀ u∈us, ∃ d∈ys, ∃ v,Rep X.K ad G d v/\aP v u
 | [],vs,us,h,r,u,hu=>by
  unfold aF at h;subst h
  cases r
  cases hu
 | d::ds,vs,us,h,r,u,hu=>by
  unfold aF at h
  obtain⟨v,r',rfl,h2,h3⟩:=h
  cases r with
  | cons r1 r2=>
   rcases au.mp hu with rfl | hu
   ·exact⟨d, .head _,v,h2,r1⟩
   ·obtain⟨d',hd,v',q⟩:=pR h3 r2 u hu
    exact⟨d', .tail _ hd,v',q⟩
theorem pS (p:D->Bool) (q:Value->Bool): ∀ {ys:List D} {vs:List V} {us:List Value},aF X.K ad G ys vs->aY vs us->(∀ d∈ys, ∀ v u,Rep X.K ad G d v->aP v u->q u=p d)->us.any q=ys.any p
 | [],vs,us,h,r,_=>by
  unfold aF at h;subst h
  cases r
  rfl
 | d::ds,vs,us,h,r,k=>by
  unfold aF at h
  obtain⟨v,r',rfl,h2,h3⟩:=h
  cases r with
  | cons r1 r2=>
   rw [List.any_cons,List.any_cons,k d (.head _) v _ h2 r1,pS p q h3 r2 fun d' hd=>k d' (.tail _ hd)]
theorem jX (p:D->Bool) (q:Value->Bool): ∀ {ys:List D} {vs:List V} {us:List Value},aF X.K ad G ys vs->aY vs us->(∀ d∈ys, ∀ v u,Rep X.K ad G d v->aP v u->q u=p d)->us.countP q=ys.countP p
 | [],vs,us,h,r,_=>by
  unfold aF at h;subst h
  cases r
  rfl
 | d::ds,vs,us,h,r,k=>by
  unfold aF at h
  obtain⟨v,r',rfl,h2,h3⟩:=h
  cases r with
  | cons r1 r2=>
   rw [List.countP_cons,List.countP_cons,k d (.head _) v _ h2 r1,jX p q h3 r2 fun d' hd=>k d' (.tail _ hd)]
theorem mI (p:D->Bool) (q:Value->Bool): ∀ {ys:List D} {vs:List V} {us:List Value},aF X.K ad G ys vs->aY vs us->(∀ d∈ys, ∀ v u,Rep X.K ad G d v->aP v u->q u=p d)->us.findIdx? q=ys.findIdx? p
 | [],vs,us,h,r,_=>by
  unfold aF at h;subst h
  cases r
  rfl
 | d::ds,vs,us,h,r,k=>by
  unfold aF at h
  obtain⟨v,r',rfl,h2,h3⟩:=h
  cases r with
  | cons r1 r2=>
   rw [List.findIdx?_cons,List.findIdx?_cons,k d (.head _) v _ h2 r1,mI p q h3 r2 fun d' hd=>k d' (.tail _ hd)]
open Classical in
theorem pT {x:D} {ys:List D} {v:V} {u:Value} {vs:List V} {its:List Value} (hu:X.A.units+62<cLine) (I:Inv X pins σ H s) (hG:Same G H) (h:sJ x ys=true) (rx:Rep X.K ad G x v) (ru:aP v u) (r:aF X.K ad G ys vs) (rv:aY vs its):
  ∃ e:Value->Bool,(∀ y,y∈its.toArray->SeqAt.EqAt X.A.in1 s y u (e y))/\its.toArray.any e=(ys.any fun y=>deq y x)/\its.countP e=(ys.countP fun y=>deq y x)/\its.findIdx? e=ys.findIdx? fun y=>deq y x:=by
 have ok: ∀ d∈ys,jS d x=true:=fun d hd=>zAd h d hd
 have key: ∀ d∈ys, ∀ v' u',Rep X.K ad G d v'->aP v' u'->(decide (∃ d' as,plain d'=true/\Reads s.heap u' (bG d') as/\PyData.eqv (bG d') (bG x)=true))=deq d x:=fun d hd v' u' r1 r2=>by
  obtain⟨p1,p2,_⟩:=hJ (ok d hd)
  obtain⟨as,q1⟩:=dC I hG p1 r1 r2
  rw [<-gI d x p1 p2]
  by_cases z:PyData.eqv (bG d) (bG x)=true
  ·rw [z]
   exact decide_eq_true ⟨d,as,p1,q1,z⟩
  ·rw [Bool.not_eq_true] at z
   rw [z]
   refine decide_eq_false ?_
   rintro⟨d',as',p',q',z'⟩
   have:=SeqAt.Reads.unique (bG d) (bG d') u' as as' (gU p1) q1 q'
   rw [<-this,z] at z'
   cases z'
 refine⟨fun u'=>decide (∃ d' as,plain d'=true/\Reads s.heap u' (bG d') as/\PyData.eqv (bG d') (bG x)=true),fun y hy=> ?_, ?_,jX _ _ r rv key,mI _ _ r rv key⟩
 ·obtain⟨d,hd,v',r1,r2⟩:=pR r rv y (by simpa using hy)
  have:=aC8 (A:=X.A.in1) (by show X.A.units+1+61<_;omega) I hG (ok d hd) r1 rx r2 ru
  rw [<-key d hd v' y r1 r2] at this
  exact this
 ·rw [List.any_toArray]
  exact pS _ _ r rv key
theorem gK (op:CmpOp) (hu:X.A.units+62<cLine):DOp X ad (compareOp op) (g9 op):=by
 intro pins s σ H G x y v w u z Q E I hG rx ry ru rz hr
 cases op with
 | Eq=>
  have hr':RK X.K ad G H (if jS x y then R.ok (.bl (deq x y)) else .bad) Q E:=hr
  by_cases hc:jS x y=true
  ·rw [if_pos hc] at hr'
   obtain⟨p1,p2,p3⟩:=hJ hc
   obtain⟨as,q1⟩:=dC I hG p1 rx ru
   obtain⟨bs,q2⟩:=dC I hG p2 ry rz
   exact SeqAt.compareEq_reads q1 q2 (gU p1) (gU p2) (by rw [gW,gW];omega) (by rw [gI x y p1 p2];exact⟨.bl _,H,I,rfl,hr'.ok_now hG aS⟩)
  ·rw [if_neg hc] at hr'
   exact hr'.elim
 | NotEq=>
  have hr':RK X.K ad G H (if jS x y then R.ok (.bl (!deq x y)) else .bad) Q E:=hr
  by_cases hc:jS x y=true
  ·rw [if_pos hc] at hr'
   obtain⟨p1,p2,p3⟩:=hJ hc
   obtain⟨as,q1⟩:=dC I hG p1 rx ru
   obtain⟨bs,q2⟩:=dC I hG p2 ry rz
   exact SeqAt.neOverData X.prog X.w X.A X.xe s u z (bG x) (bG y) as bs _ q1 q2 (gU p1) (gU p2) (by rw [gW,gW];omega) (by rw [gI x y p1 p2];exact⟨.bl _,H,I,rfl,hr'.ok_now hG aS⟩)
  ·rw [if_neg hc] at hr'
   exact hr'.elim
 | Lt=>
  cases x<;>cases y<;>try exact az hr
  unfold Rep at rx ry;subst rx;subst ry
  exact aLd pins s σ H _ _ u z Q I ru rz ⟨_,_,rfl,rfl,hr.ok_now hG aS⟩
 | LtE=>
  cases x<;>cases y<;>try exact az hr
  ·unfold Rep at rx ry;subst rx;subst ry
   exact aLe pins s σ H _ _ u z Q I ru rz ⟨_,_,rfl,rfl,hr.ok_now hG aS⟩
  ·rename_i i j
   unfold Rep at rx ry;subst rx;subst ry
   obtain⟨t,rfl⟩:=(show ∃ t,u=Value.str i t from ru)
   obtain⟨t',rfl⟩:=(show ∃ t,z=Value.str j t from rz)
   exact PySem.P.le_str ⟨.bl _,H,I,rfl,hr.ok_now hG aS⟩
 | Gt=>
  cases x<;>cases y<;>try exact az hr
  unfold Rep at rx ry;subst rx;subst ry
  exact aLf pins s σ H _ _ u z Q I ru rz ⟨_,_,rfl,rfl,hr.ok_now hG aS⟩
 | GtE=>
  cases x<;>cases y<;>try exact az hr
  unfold Rep at rx ry;subst rx;subst ry
  exact aLg pins s σ H _ _ u z Q I ru rz ⟨_,_,rfl,rfl,hr.ok_now hG aS⟩
 | Is=>
  cases y<;>try exact az hr
  ·unfold Rep at ry;subst ry
   exact aHc pins s σ H _ _ u z Q I ru rz ⟨rfl,by rw [jW rx];exact hr.ok_now hG aS⟩
  ·unfold Rep at ry;subst ry
   rename_i k
   cases (show z=Value.bool k from rz)
   exact oE ru ⟨.bl _,H,I,rfl,by rw [mH rx];exact hr.ok_now hG aS⟩
 | IsNot=>
  cases y<;>try exact az hr
  ·unfold Rep at ry;subst ry
   exact aCb pins s σ H _ _ u z Q I ru rz ⟨rfl,by rw [jW rx];exact hr.ok_now hG aS⟩
  ·unfold Rep at ry;subst ry
   rename_i k
   cases (show z=Value.bool k from rz)
   exact jM ru ⟨.bl _,H,I,rfl,by rw [mH rx];exact hr.ok_now hG aS⟩
 | In=>
  have hr':RK X.K ad G H (match items y with | some ys=>if sJ x ys then R.ok (.bl (ys.any fun y=>deq y x)) else .bad | none=> .bad) Q E:=hr
  cases e:items y with
  | none=>rw [e] at hr';exact hr'.elim
  | some ys=>
   rw [e] at hr'
   by_cases hc:sJ x ys=true
   ·have hr2:RK X.K ad G H (if sJ x ys then R.ok (.bl (ys.any fun y=>deq y x)) else .bad) Q E:=hr'
    rw [if_pos hc] at hr2
    obtain⟨p,vs,rfl,hq,rq⟩:=iR e ry
    cases (show z=Value.ref p from rz)
    rcases hq with hq | hq
    ·obtain⟨its,rv,pt,_⟩:=I.tuple (hG.seqT hq)
     obtain⟨e1,e2,e3,_⟩:=pT hu I hG hc rx ru rq rv
     exact SeqAt.in_tupleAt e1 (show s.heap.IsTuple p its.toArray from pt) e2 (by rw [e3];exact⟨.bl _,H,I,rfl,hr2.ok_now hG aS⟩)
    ·obtain⟨its,rv,pt,_⟩:=I.list (hG.seq hq)
     obtain⟨e1,e2,e3,_⟩:=pT hu I hG hc rx ru rq rv
     exact SeqAt.in_listAt e1 pt.isList e2 (by rw [e3];exact⟨.bl _,H,I,rfl,hr2.ok_now hG aS⟩)
   ·have hr2:RK X.K ad G H (if sJ x ys then R.ok (.bl (ys.any fun y=>deq y x)) else .bad) Q E:=hr'
    rw [if_neg hc] at hr2
    exact hr2.elim
 | NotIn=>
  have hr':RK X.K ad G H (match items y with | some ys=>if sJ x ys then R.ok (.bl (!ys.any fun y=>deq y x)) else .bad | none=> .bad) Q E:=hr
  cases e:items y with
  | none=>rw [e] at hr';exact hr'.elim
  | some ys=>
   rw [e] at hr'
   have hr2:RK X.K ad G H (if sJ x ys then R.ok (.bl (!ys.any fun y=>deq y x)) else .bad) Q E:=hr'
   by_cases hc:sJ x ys=true
   ·rw [if_pos hc] at hr2
    obtain⟨p,vs,rfl,hq,rq⟩:=iR e ry
    cases (show z=Value.ref p from rz)
    rcases hq with hq | hq
    ·obtain⟨its,rv,pt,_⟩:=I.tuple (hG.seqT hq)
     obtain⟨e1,e2,e3,_⟩:=pT hu I hG hc rx ru rq rv
     exact SeqAt.notIn_tupleAt e1 (show s.heap.IsTuple p its.toArray from pt) e2 (by rw [e3];exact⟨.bl _,H,I,rfl,hr2.ok_now hG aS⟩)
    ·obtain⟨its,rv,pt,_⟩:=I.list (hG.seq hq)
     obtain⟨e1,e2,e3,_⟩:=pT hu I hG hc rx ru rq rv
     exact SeqAt.notIn_listAt e1 pt.isList e2 (by rw [e3];exact⟨.bl _,H,I,rfl,hr2.ok_now hG aS⟩)
   ·rw [if_neg hc] at hr2
    exact hr2.elim
end
theorem PE.imp {X:Cx} {e:Expr} {t t':TE} (h:PE X e t) (k: ∀ σ H Q,t' σ H Q->t σ H Q):PE X e t':=fun pins s σ H Q I w=>h pins s σ H Q I (k σ H Q w)
theorem PT.imp {X:Cx} {e:Expr} {t t':TT} (h:PT X e t) (k: ∀ σ H Q,t' σ H Q->t σ H Q):PT X e t':=fun pins s σ H Q I w=>h pins s σ H Q I (k σ H Q w)
theorem PW.imp {X:Cx} {e:Expr} {t t':TT} (h:PW X e t) (k: ∀ σ H Q,t' σ H Q->t σ H Q):PW X e t':=fun wh pins s σ H Q I w=>h wh pins s σ H Q I (k σ H Q w)
theorem PS.imp {X:Cx} {e:Stmt} {t t':TS} (h:PS X e t) (k: ∀ D σ H,t' D σ H->t D σ H):PS X e t':=fun pins s σ H D I w=>h pins s σ H D I (k D σ H w)
theorem PSs.imp {X:Cx} {e:List Stmt} {t t':TS} (h:PSs X e t) (k: ∀ D σ H,t' D σ H->t D σ H):PSs X e t':=fun pins s σ H D I w=>h pins s σ H D I (k D σ H w)
theorem PA.imp {X:Cx} {es:List Expr} {t t':TA} (h:PA X es t) (k: ∀ σ H Q,t' σ H Q->t σ H Q):PA X es t':=fun p pins s σ H Q I w=>h p pins s σ H Q I (k σ H Q w)
section
variable {X:Cx} {ad:Ad} {pins:List (Addr×Obj)} {s:Shared} {σ:St} {H G:Hp} {ρ:Rho} {Q:VK} {E:Nat->Hp->Prop} {pos:Pos} {a b c:Expr} {f g h:F}
theorem fL {k:D->R} {σ:St} {H:Hp} {Q Q':VK} (hG:Same G H) (hS:SL X.K ad G H ρ σ) (hx:XP X ad σ E) (hr:RK X.K ad G H ((f ρ).bind k) Q E)
  (q: ∀ v d G1 H1,Step G H G1 H1->Rep X.K ad G1 d v->RK X.K ad G1 H1 (k d) Q E->Q' v H1):tE X ad f σ H Q':=by
 refine⟨G,ρ,E,hG,hS,hx, ?_⟩
 cases e:f ρ with
 | ok d=>
  rw [e] at hr
  exact fun v G1 H1 st r=>q v d G1 H1 st r (RK.step hr st)
 | ow xs=>
  rw [e] at hr
  intro p vs G1 H1 st n m e' r
  obtain⟨G2,st2,r2⟩:=bF (X:=X) (ad:=ad) st n m e' r
  exact q _ _ G2 H1 st2 r2 (RK.step hr st2)
 | ex c=>
  rw [e] at hr
  exact hr
 | bad=>
  rw [e] at hr
  exact hr
theorem kT (hx:XP X ad σ E) {G1 H1:Hp} (st:Step G H G1 H1) (hS:SL X.K ad G H ρ σ) {Q:VK} (hr:RK X.K ad G1 H1 (f ρ) Q E):tE X ad f σ H1 Q:=⟨G1,ρ,E,st.gh,hS.step st,hx,hr⟩
theorem aH8 (ha:ME X ad a f):ME X ad (.UnaryOp .Not a pos) (hF f):=by
 refine PE.imp (aGr ha) ?_
 rintro σ H Q ⟨G,ρ,E,hG,hS,hx,hr⟩
 refine fL hG hS hx hr fun v d G1 H1 st r k=> ?_
 cases d<;>try exact az k
 unfold Rep at r;subst r
 exact⟨_,rfl,k.ok_now st.gh aS⟩
theorem aH9 (ha:ME X ad a f):ME X ad (.UnaryOp .USub a pos) (aNj f):=by
 refine PE.imp (aLa aHb ha) ?_
 rintro σ H Q ⟨G,ρ,E,hG,hS,hx,hr⟩
 refine fL hG hS hx hr fun v d G1 H1 st r k=> ?_
 cases d<;>try exact az k
 unfold Rep at r;subst r
 exact⟨_,rfl,k.ok_now st.gh aQ⟩
theorem aIa {σ:St} {H:Hp} {Q:VK} (h:tE X ad (fI f g) σ H Q):aGo (tE X ad f) (tE X ad g) σ H Q:=by
 obtain⟨G,ρ,E,hG,hS,hx,hr⟩:=h
 refine fL hG hS hx hr fun v d G1 H1 st r k=> ?_
 cases d<;>try exact az k
 rename_i b
 unfold Rep at r;subst r
 refine⟨b,rfl, ?_⟩
 cases b with
 | true=>exact aAw (kT hx st hS k)
 | false=>exact aCl (k.ok_now st.gh aS)
theorem aLx {σ:St} {H:Hp} {Q:VK} (h:tE X ad (rOr f g) σ H Q):aNd (tE X ad f) (tE X ad g) σ H Q:=by
 obtain⟨G,ρ,E,hG,hS,hx,hr⟩:=h
 refine fL hG hS hx hr fun v d G1 H1 st r k=> ?_
 cases d<;>try exact az k
 rename_i b
 unfold Rep at r;subst r
 refine⟨b,rfl, ?_⟩
 cases b with
 | true=>exact aAw (k.ok_now st.gh aS)
 | false=>exact aCl (kT hx st hS k)
theorem aA2 {r:List Expr} (ha:ME X ad a f) (hb:ME X ad (.BoolOp .And (b::r) pos) g):ME X ad (.BoolOp .And (a::b::r) pos) (fI f g):=PE.imp (aGq ha hb) fun _ _ _ h=>aIa h
theorem aIb {r:List Expr} (ha:ME X ad a f) (hb:ME X ad (.BoolOp .Or (b::r) pos) g):ME X ad (.BoolOp .Or (a::b::r) pos) (rOr f g):=PE.imp (aK4 ha hb) fun _ _ _ h=>aLx h
theorem aA3 {op:BoolOp} (hb:ME X ad b g):ME X ad (.BoolOp op [b] pos) g:=aGp hb
theorem aLy {σ:St} {H:Hp} {Q:Bool->Hp->Prop} (h:tT X ad f σ H Q):tE X ad f σ H fun x H1=> ∃ k,x= .bl k/\Q k H1:=by
 obtain⟨G,ρ,E,hG,hS,hx,ht,hr⟩:=h
 exact⟨G,ρ,E,hG,hS,hx,hr⟩
theorem aIc (ha:ME X ad a f) (he: ∀ whole,isTrue a X.env whole=(do let v<-whole;standAt a.pos;holding [v] (truthy v))):MT X ad a f:=PT.imp (aGm ha he) fun _ _ _ h=>aLy h
theorem d6 {r:R} {k:D->R} (h:jV (r.bind k)):(∃ d,r= .ok d/\jV (k d))\/(∃ xs,r= .ow xs/\jV (k (.lst xs)))\/ ∃ c,r= .ex c:=by
 cases r with
 | ok d=>exact .inl ⟨d,rfl,h⟩
 | ow xs=>exact .inr (.inl ⟨xs,rfl,h⟩)
 | ex c=>exact .inr (.inr ⟨c,rfl⟩)
 | bad=>
  rcases h with ⟨_,h⟩ | ⟨_,h⟩<;>cases h
theorem bB: ¬ jV .bad:=by
 rintro(⟨_,h⟩ | ⟨_,h⟩)<;>cases h
theorem aId {σ:St} {H:Hp} {Q:Bool->Hp->Prop} (h:tT X ad (hF f) σ H Q):aNc (tT X ad f) σ H Q:=by
 obtain⟨G,ρ,E,hG,hS,hx,ht,hr⟩:=h
 rcases d6 ht with ⟨d,e,ht⟩ | ⟨xs,e,ht⟩ | ⟨c,e⟩
 ·cases d<;>try exact(bB ht).elim
  rename_i b
  refine⟨G,ρ,E,hG,hS,hx, .inl ⟨b,e⟩, ?_⟩
  have hr':RK X.K ad G H ((f ρ).bind fun x=>match x with | .bl b=> .ok (.bl (!b)) | _=> .bad) (fun v H'=> ∃ b,v= .bl b/\Q b H') E:=hr
  rw [e] at hr' ⊢
  intro v G1 H1 st r
  unfold Rep at r;subst r
  obtain⟨b',e',q⟩:=hr' (.bl (!b)) G1 H1 st aS
  cases e'
  exact⟨b,rfl,q⟩
 ·exact(bB ht).elim
 ·refine⟨G,ρ,E,hG,hS,hx, .inr ⟨c,e⟩, ?_⟩
  have hr':RK X.K ad G H ((f ρ).bind fun x=>match x with | .bl b=> .ok (.bl (!b)) | _=> .bad) (fun v H'=> ∃ b,v= .bl b/\Q b H') E:=hr
  rw [e] at hr' ⊢
  exact hr'
theorem aIe (ha:MT X ad a f):MT X ad (.UnaryOp .Not a pos) (hF f):=PT.imp (aGn ha) fun _ _ _ h=>aId h
theorem aIf {σ:St} {H:Hp} {Q:Bool->Hp->Prop} (h:tT X ad (fI f g) σ H Q):aNb (tT X ad f) (tT X ad g) σ H Q:=by
 obtain⟨G,ρ,E,hG,hS,hx,ht,hr⟩:=h
 have hr':RK X.K ad G H ((f ρ).bind fun x=>match x with | .bl true=>g ρ | .bl false=> .ok (.bl false) | _=> .bad) (fun v H'=> ∃ b,v= .bl b/\Q b H') E:=hr
 rcases d6 ht with ⟨d,e,ht⟩ | ⟨xs,e,ht⟩ | ⟨c,e⟩
 ·cases d<;>try exact(bB ht).elim
  rename_i b
  refine⟨G,ρ,E,hG,hS,hx, .inl ⟨b,e⟩, ?_⟩
  rw [e] at hr' ⊢
  intro v G1 H1 st r
  unfold Rep at r;subst r
  refine⟨b,rfl, ?_⟩
  cases b with
  | true=>exact aAw ⟨G1,ρ,E,st.gh,hS.step st,hx,ht,RK.step hr' st⟩
  | false=>
   obtain⟨b',e',q⟩:=hr' (.bl false) G1 H1 st aS
   cases e'
   exact aCl q
 ·exact(bB ht).elim
 ·refine⟨G,ρ,E,hG,hS,hx, .inr ⟨c,e⟩, ?_⟩
  rw [e] at hr' ⊢
  exact hr'
theorem aLz {σ:St} {H:Hp} {Q:Bool->Hp->Prop} (h:tT X ad (rOr f g) σ H Q):tOr (tT X ad f) (tT X ad g) σ H Q:=by
 obtain⟨G,ρ,E,hG,hS,hx,ht,hr⟩:=h
 have hr':RK X.K ad G H ((f ρ).bind fun x=>match x with | .bl true=> .ok (.bl true) | .bl false=>g ρ | _=> .bad) (fun v H'=> ∃ b,v= .bl b/\Q b H') E:=hr
 rcases d6 ht with ⟨d,e,ht⟩ | ⟨xs,e,ht⟩ | ⟨c,e⟩
 ·cases d<;>try exact(bB ht).elim
  rename_i b
  refine⟨G,ρ,E,hG,hS,hx, .inl ⟨b,e⟩, ?_⟩
  rw [e] at hr' ⊢
  intro v G1 H1 st r
  unfold Rep at r;subst r
  refine⟨b,rfl, ?_⟩
  cases b with
  | true=>
   obtain⟨b',e',q⟩:=hr' (.bl true) G1 H1 st aS
   cases e'
   exact aAw q
  | false=>exact aCl ⟨G1,ρ,E,st.gh,hS.step st,hx,ht,RK.step hr' st⟩
 ·exact(bB ht).elim
 ·refine⟨G,ρ,E,hG,hS,hx, .inr ⟨c,e⟩, ?_⟩
  rw [e] at hr' ⊢
  exact hr'
theorem aA4 {r:List Expr} (ha:MT X ad a f) (hb:MW X ad (.BoolOp .And (b::r) pos) g):MW X ad (.BoolOp .And (a::b::r) pos) (fI f g):=PW.imp (pw_and ha hb) fun _ _ _ h=>aIf h
theorem aIg {r:List Expr} (ha:MT X ad a f) (hb:MW X ad (.BoolOp .Or (b::r) pos) g):MW X ad (.BoolOp .Or (a::b::r) pos) (rOr f g):=PW.imp (pw_or ha hb) fun _ _ _ h=>aLz h
theorem aA5 {op:BoolOp} (hb:MT X ad b g):MW X ad (.BoolOp op [b] pos) g:=by
 cases op with
 | And=>exact pw_and1 hb
 | Or=>exact pw_or1 hb
theorem tZ {op:CmpOp} {x y:D}:(∃ k,g9 op x y= .ok (.bl k))\/g9 op x y= .bad:=by
 cases op<;>unfold g9<;>(repeat' split)<;>first | exact .inr rfl | exact .inl ⟨_,rfl⟩
theorem aL0 {op:CmpOp} {x y:D} {v w:V} {u z:Value} (hu:X.A.units+62<cLine) (I:Inv X pins σ H s) (hG:Same G H) (rx:Rep X.K ad G x v) (ry:Rep X.K ad G y w) (ru:aP v u) (rz:aP w z) {k:D->R}
  (hr:RK X.K ad G H ((g9 op x y).bind k) Q E):wpAny (model X.prog X.w) X.A (compareOp op u z) (fun d s3=> ∃ b G' H',d= .bool b/\Step G H G' H'/\Inv X pins σ H' s3/\RK X.K ad G' H' (k (.bl b)) Q E) X.xe s:=by
 rcases tZ (op:=op) (x:=x) (y:=y) with ⟨b,e⟩ | e
 ·rw [e] at hr
  refine L2.thn (gK op hu pins s σ H G x y v w u z (fun q H'=> ∃ G',Step G H G' H'/\q= .bl b) E I hG rx ry ru rz (by rw [e];exact fun q G' H' st r=>⟨G',st,by unfold Rep at r;exact r⟩)) fun d s3 ⟨q,H',I',r',G',st,e1⟩=> ?_
  subst e1
  cases r'
  exact⟨b,G',H',rfl,st,I',RK.step hr st⟩
 ·rw [e] at hr
  exact hr.elim
theorem x9 {op op':CmpOp} (hu:X.A.units+62<cLine) (ha:ME X ad a f) (hb:ME X ad b g) (hc:ME X ad c h) (hm:lastMarks [op,op'] [b,c]=false):ME X ad (.Compare a [op,op'] [b,c] pos) (jU op op' f g h):=by
 intro pins s σ H Q I ⟨G,ρ,E,hG,hS,hx,hr⟩
 refine Compare_chain (L2.thn (ha.thn I hG hS hx hr) fun v s1 ⟨x,d1,G1,H1,I1,r1,st1,q1,k1⟩=>chain_link (L2.thn (hb.thn I1 st1.gh (hS.step st1) hx k1) fun u s2 ⟨y,d2,G2,H2,I2,r2,st2,q2,k2⟩=>
  L2.thn (aL0 hu I2 st2.gh (q1.mono st2.sg) q2 r1 r2 k2) fun d s3 ⟨k,G3,H3,e,st3,I3,k3⟩=> ?_)) hm
 subst e
 refine wpAny_truthy_bool ?_
 cases k with
 | false=>exact ite_ff ⟨.bl false,H3,I3,rfl,k3.ok_now st3.gh aS⟩
 | true=>
  refine ite_tt (chain_last (L2.thn (hc.thn I3 st3.gh (((hS.step st1).step st2).step st3) hx k3) fun w' s4 hz_=> ?_))
  obtain⟨z',d4,G4,H4,I4,r4,st4,q4,k4⟩:=hz_
  exact gK op' hu pins s4 σ H4 G4 d2 d4 y z' u w' Q E I4 st4.gh ((q2.mono st3.sg).mono st4.sg) q4 r2 r4 k4
theorem yA {op op':CmpOp} (hu:X.A.units+62<cLine) (ha:ME X ad a f) (hb:ME X ad b g) (hc:ME X ad c h) (hm:lastMarks [op,op'] [b,c]=false):MT X ad (.Compare a [op,op'] [b,c] pos) (jU op op' f g h):=by
 intro pins s σ H Q I ⟨G,ρ,E,hG,hS,hx,ht,hr⟩
 refine isTrue_chain (L2.thn (ha.thn I hG hS hx hr) fun v s1 ⟨x,d1,G1,H1,I1,r1,st1,q1,k1⟩=>test_link (L2.thn (hb.thn I1 st1.gh (hS.step st1) hx k1) fun u s2 ⟨y,d2,G2,H2,I2,r2,st2,q2,k2⟩=>
  L2.thn (aL0 hu I2 st2.gh (q1.mono st2.sg) q2 r1 r2 k2) fun d s3 ⟨k,G3,H3,e,st3,I3,k3⟩=> ?_)) hm
 subst e
 refine wpAny_truthy_bool ?_
 cases k with
 | false=>
  obtain⟨k',e',q'⟩:=k3.ok_now (v:= .bl false) st3.gh aS
  cases e'
  exact ite_ff ⟨H3,I3,q'⟩
 | true=>
  refine ite_tt (test_last (L2.thn (hc.thn I3 st3.gh (((hS.step st1).step st2).step st3) hx k3) fun w' s4 hz_=> ?_))
  obtain⟨z',d4,G4,H4,I4,r4,st4,q4,k4⟩:=hz_
  refine L2.thn (gK op' hu pins s4 σ H4 G4 d2 d4 y z' u w' _ E I4 st4.gh ((q2.mono st3.sg).mono st4.sg) q4 r2 r4 k4) fun d' s5 hz_=> ?_
  obtain⟨z2,H5,I5,r5,k2,e2,q5⟩:=hz_
  subst e2
  cases r5
  exact wpAny_truthy_bool ⟨H5,I5,q5⟩
theorem yB (hc:MT X ad c h) (ha:ME X ad a f) (hb:ME X ad b g):ME X ad (.IfExp c a b pos) (rIf h f g):=by
 refine PE.imp (xK hc ha hb) ?_
 rintro σ H Q ⟨G,ρ,E,hG,hS,hx,hr⟩
 have hr':RK X.K ad G H ((h ρ).bind fun x=>match x with | .bl true=>f ρ | .bl false=>g ρ | _=> .bad) Q E:=hr
 cases e:h ρ with
 | ok d=>
  rw [e] at hr'
  cases d<;>try exact hr'.elim
  rename_i k
  refine⟨G,ρ,E,hG,hS,hx, .inl ⟨k,e⟩, ?_⟩
  rw [e]
  intro v G1 H1 st r
  unfold Rep at r;subst r
  refine⟨k,rfl, ?_⟩
  cases k with
  | true=>exact aAw (kT hx st hS (RK.step hr' st))
  | false=>exact aCl (kT hx st hS (RK.step hr' st))
 | ow xs=>rw [e] at hr';exact hr'.elim
 | ex k=>
  rw [e] at hr'
  exact⟨G,ρ,E,hG,hS,hx, .inr ⟨k,e⟩,by rw [e];exact hr'⟩
 | bad=>rw [e] at hr';exact hr'.elim
theorem aA6:MA X ad [] []:=PA.imp cL fun σ H Q ⟨G,ρ,E,hG,hS,hx,hr⟩=>hr [] G H (Step.refl hG) aF.nil
theorem oF {es:List Expr} {fs:List F} (ha:ME X ad a f) (hr:MA X ad es fs) (hs:starEach (a::es) X.env=(false,eval a X.env)::starEach es X.env):MA X ad (a::es) (f::fs):=by
 refine PA.imp (bE ha hr hs) ?_
 rintro σ H Q ⟨G,ρ,E,hG,hS,hx,hr⟩
 have main: ∀ d,AK X.K ad G H ((args fs ρ).cons d) Q E-> ∀ v G1 H1,Step G H G1 H1->Rep X.K ad G1 d v->tA X ad fs σ H1 fun xs H2=>Q (v::xs) H2:=fun d hk v G1 H1 st r=>by
  refine⟨G1,ρ,E,st.gh,hS.step st,hx, ?_⟩
  cases e:args fs ρ with
  | ok ds=>rw [e] at hk;exact fun vs G2 H2 st2 r2=>hk (v::vs) G2 H2 (st.trans st2) (aF.cons (r.mono st2.sg) r2)
  | ex c=>rw [e] at hk;exact fun G2 H2 st2=>hk G2 H2 (st.trans st2)
  | bad=>rw [e] at hk;exact hk
 refine⟨G,ρ,E,hG,hS,hx, ?_⟩
 unfold args at hr
 cases e:f ρ with
 | ok d=>rw [e] at hr;exact fun v G1 H1 st r=>main d hr v G1 H1 st r
 | ow xs=>
  rw [e] at hr
  intro p vs G1 H1 st n m e' r
  obtain⟨G2,st2,r2⟩:=bF (X:=X) (ad:=ad) st n m e' r
  exact main _ hr _ G2 H1 st2 r2
 | ex c=>rw [e] at hr;exact hr
 | bad=>rw [e] at hr;exact hr
theorem fV {fs:List F} {ρ:Rho} {ds:List D} (h:args fs ρ= .ok ds):ds.length=fs.length:=by
 induction fs generalizing ds with
 | nil=>cases h;rfl
 | cons f fs ih=>
  unfold args at h
  cases e:f ρ with
  | ok d=>
   rw [e] at h
   cases e2:args fs ρ with
   | ok r=>rw [e2] at h;cases h;simp [ih e2]
   | ex c=>rw [e2] at h;cases h
   | bad=>rw [e2] at h;cases h
  | ow d=>
   rw [e] at h
   cases e2:args fs ρ with
   | ok r=>rw [e2] at h;cases h;simp [ih e2]
   | ex c=>rw [e2] at h;cases h
   | bad=>rw [e2] at h;cases h
  | ex c=>rw [e] at h;cases h
  | bad=>rw [e] at h;cases h
theorem oG {fs:List F} {k:List D->R} {σ:St} {H:Hp} {Q:VK} {Q':List V->Hp->Prop} (hG:Same G H) (hS:SL X.K ad G H ρ σ) (hx:XP X ad σ E) (hr:RK X.K ad G H (nH fs ρ k) Q E)
  (q: ∀ vs ds G1 H1,Step G H G1 H1->aF X.K ad G1 ds vs->ds.length=fs.length->RK X.K ad G1 H1 (k ds) Q E->Q' vs H1):tA X ad fs σ H Q':=by
 refine⟨G,ρ,E,hG,hS,hx, ?_⟩
 unfold nH at hr
 cases e:args fs ρ with
 | ok ds=>rw [e] at hr;exact fun vs G1 H1 st r=>q vs ds G1 H1 st r (fV e) (RK.step hr st)
 | ex c=>rw [e] at hr;exact hr
 | bad=>rw [e] at hr;exact hr
theorem aIh {es:List Expr} {fs:List F} {j:Nat} (ha:MA X ad es fs) (hl:fs.length<=1000):ME X ad (.Tuple es j pos) (jH fs):=by
 refine PE.imp (aAu ha) ?_
 rintro σ H Q ⟨G,ρ,E,hG,hS,hx,hr⟩
 refine⟨G,ρ,E,hG,hS,hx, ?_⟩
 have hr':RK X.K ad G H ((args fs ρ).then fun xs=> .ok (.tup xs)) Q E:=hr
 cases e:args fs ρ with
 | ok ds=>
  rw [e] at hr'
  intro vs G1 H1 st r
  refine⟨?_,fun p hp=>(RK.step hr' st).tup_new st.gh r hp⟩
  have:=r.length
  rw [this,fV e]
  exact Nat.le_trans hl (by decide)
 | ex c=>rw [e] at hr';exact hr'
 | bad=>rw [e] at hr';exact hr'
theorem aIi {es:List Expr} {fs:List F} (ha:MA X ad es fs) (hl:fs.length<=1000):ME X ad (.List es pos) (eT fs):=by
 refine PE.imp (pE ha) ?_
 rintro σ H Q ⟨G,ρ,E,hG,hS,hx,hr⟩
 refine⟨G,ρ,E,hG,hS,hx, ?_⟩
 have hr':RK X.K ad G H ((args fs ρ).then fun xs=> .ow xs) Q E:=hr
 cases e:args fs ρ with
 | ok ds=>
  rw [e] at hr'
  intro vs G1 H1 st r
  refine⟨?_,fun p hp=>(RK.step hr' st).ow_new st.gh r hp⟩
  have:=r.length
  rw [this,fV e]
  exact Nat.le_trans hl (by decide)
 | ex c=>rw [e] at hr';exact hr'
 | bad=>rw [e] at hr';exact hr'
def Seq (X:Cx) (ad:Ad) (G H:Hp) (x:D) (v:V):Prop:=Rep X.K ad G x v\/ ∃ a vs ds,x= .lst ds/\v= .ref a/\G a=none/\H a=some (.lst vs)/\aF X.K ad G ds vs
theorem Seq.step {G1 H1:Hp} {x:D} {v:V} (q:Seq X ad G H x v) (st:Step G H G1 H1):Seq X ad G1 H1 x v:=by
 rcases q with q | ⟨a,vs,ds,e1,e2,h1,h2,h3⟩
 ·exact .inl (q.mono st.sg)
 ·refine .inr ⟨a,vs,ds,e1,e2, ?_,st.sh _ _ h2,h3.mono st.sg⟩
  cases z:G1 a with
  | none=>rfl
  | some o=>
   have:=st.nw a h1 (by rw [z];exact fun z=>nomatch z)
   rw [h2] at this
   cases this
theorem Seq.items {x:D} {v:V} {ds:List D} (q:Seq X ad G H x v) (hG:Same G H) (e:items x=some ds): ∃ a vs,v= .ref a/\(x= .tup ds/\SqT X.K H a vs\/x= .lst ds/\SqL X.K H a vs)/\aF X.K ad G ds vs:=by
 rcases q with q | ⟨a,vs,ds',e1,e2,h1,h2,h3⟩
 ·cases x with
  | tup _=>cases e;unfold Rep at q;obtain⟨a,vs,h1,h2,h3⟩:=q;exact⟨a,vs,h1, .inl ⟨rfl,hG.seqT h2⟩,h3⟩
  | lst _=>cases e;unfold Rep at q;obtain⟨a,vs,h1,h2,h3⟩:=q;exact⟨a,vs,h1, .inr ⟨rfl,hG.seq h2⟩,h3⟩
  | _=>cases e
 ·subst e1
  cases e
  exact⟨a,vs,e2, .inr ⟨rfl,SqL.of h2⟩,h3⟩
theorem pU (n:Nat) (i:Int):ixD n i=L2.ixN n i:=rfl
theorem aL1 (ha:MLk X ad a f) (hb:ME X ad b g) (hs:sY b):ME X ad (.Subscript a b pos) (rIx f g):=by
 intro pins s σ H Q I ⟨G,ρ,E,hG,hS,hx,hr⟩
 refine Subscript_ (L2.thn (ha pins s σ H G ρ _ Q E I hG hS hx hr) fun v s1 hz_=> ?_)
 obtain⟨x,d1,G1,H1,I1,r1,st1,q1,k1⟩:=hz_
 refine L2.thn (hb.thn I1 st1.gh (hS.step st1) hx k1) fun u s2 hz_=> ?_
 obtain⟨y,d2,G2,H2,I2,r2,st2,q2,k2⟩:=hz_
 have q1':Seq X ad G2 H2 d1 x:=Seq.step (X:=X) (ad:=ad) q1 st2
 unfold dIx at k2
 cases e:items d1 with
 | none=>rw [e] at k2;exact k2.elim
 | some ds=>
  rw [e] at k2
  cases d2<;>try exact k2.elim
  rename_i i
  unfold Rep at q2;subst q2
  obtain⟨p,vs,rfl,hq,rq⟩:=q1'.items st2.gh e
  have hr2:RK X.K ad G2 H2 (match(ixD ds.length i).bind fun j=>ds[j]? with | some d=> .ok d | none=> .bad) Q E:=k2
  cases e3:(ixD ds.length i).bind fun j=>ds[j]? with
  | none=>rw [e3] at hr2;exact hr2.elim
  | some d=>
   rw [e3] at hr2
   obtain⟨j,e4,e5⟩:=zBd e3
   obtain⟨w,e6,r6⟩:=rq.get e5
   have hat:atI vs i=some w:=by
    unfold atI
    rw [rq.length, <-pU,e4]
    exact e6
   rcases hq with ⟨_,hq⟩ | ⟨_,hq⟩
   ·exact aHi a b pins s2 σ H2 _ _ v u Q I2 r1 r2 ⟨p,vs,i,w,rfl,rfl,hq,hat,hr2.ok_now st2.gh r6⟩ (hs _ _)
   ·exact aCh a b pins s2 σ H2 _ _ v u Q I2 r1 r2 ⟨p,vs,i,w,rfl,rfl,hq,hat,hr2.ok_now st2.gh r6⟩ (hs _ _)
theorem fM {prog:Program} {w:World} {A:Around} {Ex:Value->Shared->Prop} {s:Shared} {t sl:Addr} {items:Array Value} {vl vu:Value} {lo hi:Option Int} {Q:Value->Shared->Prop} (ht:IsTup s.heap t items) (hs:s.heap.IsSliceOf sl vl vu .none)
  (pl:IsPart vl lo) (pu:IsPart vu hi) (hw:HT.sIx items.size 0 lo=0/\HT.sIx items.size items.size hi=items.size) (h:Q (.ref t) s) (hsz:items.size<=sizeLine):wpAny (model prog w) A (getItem (.ref t) (.ref sl)) Q Ex s:=by
 obtain⟨os,hos,hcs,hds⟩:=id hs
 have ts:s.TypeIs (.ref sl) "slice":=⟨os,hos,hcs⟩
 unfold getItem
 try with_reducible refine wpAny_holding ?_
 first | refine aa (ae ?_) | skip
 refine aa (wpAny_sequenceKey ht.typeIs (by decide) ?_)
 refine aa (wpAny_callSpecial?_slot (name:=Str.ofString "__getitem__") ht.typeIs PyProof.Rows.slot_tuple_getitem
  (wpAny_call_entry PyProof.Rows.slot_tuple_getitem ht.typeIs entry_tuple_getitem ?_ (args_tuple_getitem _ _)))
 show wpAny _ _ (Builtin.Tuple.tupleItemsOf (.ref t) >>= _) _ _ s
 refine aa (tupleItemsOf_ ht ?_)
 refine aa (wpAny_typeOf ts ?_)
 rw [if_pos (by decide)]
 refine aa (HT.sliceApplied_gen hs pl pu ?_)
 have yes:(((HT.sIx items.size 0 lo:Nat):Int)==0&&(1:Int)==1&&(HT.sIx items.size items.size hi - HT.sIx items.size 0 lo)==items.size)=true:=by
  rw [hw.1,hw.2]
  simp
 show wpAny _ _ (if(((HT.sIx items.size 0 lo:Nat):Int)==0&&(1:Int)==1&&(HT.sIx items.size items.size hi - HT.sIx items.size 0 lo)==items.size)=true then _ else _) _ _ s
 rw [if_pos yes]
 unfold Builtin.Tuple.tupleIsExact
 refine aa (m:=(do let z<-typeOf (.ref t);return z== .type "tuple")) (aa (wpAny_typeOf ht.typeIs (ae ?_)))
 rw [if_pos (by decide)]
 first
  | exact aa (wpAny_rule (aa (ae (ae ⟨_,rfl,ae h⟩))))
  | exact aa (wpAny_rule (ae ⟨_,rfl,ae h⟩))
  | exact aa (aa (wpAny_rule (ae (ae ⟨_,rfl,ae h⟩))))
  | skip
theorem pV: ∀ {ds:List D} {vs:List V} (lo hi:Option Int),aF X.K ad G ds vs->aF X.K ad G (xT ds lo hi) (pI vs lo hi):=by
 intro ds vs lo hi r
 unfold xT pI
 rw [r.length]
 exact(r.drop _).take _
theorem aIj:SlR X (fun x lo hi H Q=> ∃ a vs,x= .ref a/\((SqT X.K H a vs/\(HT.sIx vs.length 0 lo=0/\HT.sIx vs.length vs.length hi=vs.length->Q (.ref a) H)/\ ∀ p,H p=none->Q (.ref p) (upd H p (.tup (pI vs lo hi))))\/
  (SqL X.K H a vs/\ ∀ p,H p=none->Q (.ref p) (upd H p (.lst (pI vs lo hi)))))):=by
 intro pins s σ H x v vl vu lo hi sl Q I rx hs pl pu q
 obtain⟨a,vs,rfl,⟨hq,q1,q2⟩ | ⟨hq,q⟩⟩:=q
 ·by_cases hw:HT.sIx vs.length 0 lo=0/\HT.sIx vs.length vs.length hi=vs.length
  ·cases rx
   obtain⟨its,r,ht,hz⟩:=I.tuple hq
   have hlen:its.toArray.size=vs.length:=by rw [aw];exact r.length.symm
   refine⟨"tuple",_,PyProof.Rows.slot_tuple_getitem.lookup,ht.typeIs, ?_⟩
   refine fM ht hs pl pu (by rw [hlen];exact hw) ⟨.ref a,H,I,rfl,q1 hw⟩ (by rw [hlen];exact hz)
  ·exact aHh pins s σ H _ v vl vu lo hi sl Q I rx hs pl pu ⟨a,vs,rfl,hq,hw,q2⟩
 ·exact aCi pins s σ H _ v vl vu lo hi sl Q I rx hs pl pu ⟨a,vs,rfl,hq,q⟩
theorem pW {x:D} {v:V} {lo hi:Option Int} (q:Seq X ad G H x v) (hG:Same G H) (hr:RK X.K ad G H (aHm x lo hi) Q E):
  ∃ a vs,v= .ref a/\((SqT X.K H a vs/\(HT.sIx vs.length 0 lo=0/\HT.sIx vs.length vs.length hi=vs.length->Q (.ref a) H)/\ ∀ p,H p=none->Q (.ref p) (upd H p (.tup (pI vs lo hi))))\/(SqL X.K H a vs/\ ∀ p,H p=none->Q (.ref p) (upd H p (.lst (pI vs lo hi))))):=by
 cases x with
 | tup ds=>
  rcases q with q | ⟨_,_,_,z,_⟩
  ·unfold Rep at q
   obtain⟨a,vs,rfl,hq,rq⟩:=q
   refine⟨a,vs,rfl, .inl ⟨hG.seqT hq,fun e=> ?_,fun p hp=>RK.tup_new (xs:=xT ds lo hi) hr hG (pV lo hi rq) hp⟩⟩
   refine RK.ok_now (d:= .tup (xT ds lo hi)) hr hG ?_
   have e':xT ds lo hi=ds:=by
    rw [rq.length] at e
    have e1:tH ds.length 0 lo=0:=e.1
    have e2:tH ds.length ds.length hi=ds.length:=e.2
    unfold xT
    rw [e1,e2]
    simp
   rw [e']
   unfold Rep
   exact⟨a,vs,rfl,hq,rq⟩
  ·cases z
 | lst ds=>
  obtain⟨a,vs,rfl,hq,rq⟩:=q.items hG (rfl:items (.lst ds)=some ds)
  rcases hq with ⟨z,_⟩ | ⟨_,hq⟩
  ·cases z
  ·exact⟨a,vs,rfl, .inr ⟨hq,fun p hp=>RK.ow_new (xs:=xT ds lo hi) hr hG (pV lo hi rq) hp⟩⟩
 | _=>exact az hr
theorem aIk {l u:Option Expr} {fl fu:Option F} {p2:Pos} (ha:MLk X ad a f) (hl:match l,fl with | none,none=>True | some e,some k=>ME X ad e k | _,_=>False) (hu:match u,fu with | none,none=>True | some e,some k=>ME X ad e k | _,_=>False):
  ME X ad (.Subscript a (.Slice l u none p2) pos) (aHn f fl fu):=by
 intro pins s σ H Q I ⟨G,ρ,E,hG,hS,hx,hr⟩
 -- the value first
 have key: ∀ (k:D->R),RK X.K ad G H ((f ρ).bind k) Q E->(∀ (pins:List (Addr×Obj)) (s1:Shared) (x:V) (d:D) (G1 H1:Hp),Inv X pins σ H1 s1->Step G H G1 H1->Seq X ad G1 H1 d x->RK X.K ad G1 H1 (k d) Q E->
   wpAny (model X.prog X.w) X.A (evalPart l X.env) (fun vl s2=>wpAny (model X.prog X.w) X.A (evalPart u X.env) (fun vu s3=> ∃ lo hi H3,Inv X pins σ H3 s3/\IsPart vl lo/\IsPart vu hi/\
    ∃ a vs,x= .ref a/\((SqT X.K H3 a vs/\(HT.sIx vs.length 0 lo=0/\HT.sIx vs.length vs.length hi=vs.length->Q (.ref a) H3)/\ ∀ p,H3 p=none->Q (.ref p) (upd H3 p (.tup (pI vs lo hi))))\/(SqL X.K H3 a vs/\ ∀ p,H3 p=none->Q (.ref p) (upd H3 p (.lst (pI vs lo hi)))))) X.xe s2) X.xe s1)->
   wpAny (model X.prog X.w) X.A (eval (.Subscript a (.Slice l u none p2) pos) X.env) (EP X pins σ Q) X.xe s:=fun k hk go=>by
  refine Subscript_ (L2.thn (ha pins s σ H G ρ k Q E I hG hS hx hk) fun v s1 hz_=> ?_)
  obtain⟨x,d1,G1,H1,I1,r1,st1,q1,k1⟩:=hz_
  refine wpAny_Slice (L2.thn (go pins s1 x d1 G1 H1 I1 st1 q1 k1) fun vl s2 h2=>L2.thn h2 fun vu s3 hz_=> ?_)
  obtain⟨lo,hi,H3,I3,pl,pu,q3⟩:=hz_
  rw [evalPart_none]
  refine ae ?_
  have I4:Inv X pins σ H3 { s3 with heap:=s3.heap.push { cls:= .type "slice",data:= .fields #[vl,vu, .none] } }:=I3.kept (t':=s3.toks) fun b ob q=>af _ q
  obtain⟨T,id,hT,ht,hg⟩:=aIj pins { s3 with heap:=s3.heap.push { cls:= .type "slice",data:= .fields #[vl,vu, .none] } } σ H3 x v vl vu lo hi s3.heap.objs.size Q I4 r1 (Heap.IsSliceOf.new ..) pl pu q3
  show wpAny (model X.prog X.w) X.A (subscriptTail a (.Slice l u none p2) v (.ref s3.heap.objs.size)) (EP X pins σ Q) X.xe { s3 with heap:=s3.heap.push { cls:= .type "slice",data:= .fields #[vl,vu, .none] } }
  exact tail_any (ops:=[.ref s3.heap.objs.size,v]) ht hT hg (by with_unfolding_all rfl)
 unfold aHn at hr
 refine key _ hr fun pins s1 x d G1 H1 I1 st1 q1 k1=> ?_
 cases l with
 | none=>
  cases fl with
  | some _=>exact hl.elim
  | none=>
   rw [evalPart_none]
   refine ae ?_
   cases u with
   | none=>
    cases fu with
    | some _=>exact hu.elim
    | none=>
     rw [evalPart_none]
     exact ae ⟨none,none,H1,I1, .none, .none,pW q1 st1.gh k1⟩
   | some e=>
    cases fu with
    | none=>exact hu.elim
    | some k=>
     rw [evalPart_some]
     refine L2.thn (ME.thn hu I1 st1.gh (hS.step st1) hx k1) fun vu s2 hz_=> ?_
     obtain⟨y,d2,G2,H2,I2,r2,st2,q2,k2⟩:=hz_
     cases d2<;>try exact az k2
     rename_i j
     unfold Rep at q2;subst q2
     obtain⟨t,rfl⟩:=r2
     exact⟨none,some j,H2,I2, .none, .int j t,pW (Seq.step q1 st2) st2.gh k2⟩
 | some e=>
  cases fl with
  | none=>exact hl.elim
  | some k=>
   cases u with
   | none=>
    cases fu with
    | some _=>exact hu.elim
    | none=>
     rw [evalPart_some]
     refine L2.thn (ME.thn hl I1 st1.gh (hS.step st1) hx k1) fun vu s2 hz_=> ?_
     obtain⟨y,d2,G2,H2,I2,r2,st2,q2,k2⟩:=hz_
     cases d2<;>try exact az k2
     rename_i j
     unfold Rep at q2;subst q2
     obtain⟨t,rfl⟩:=r2
     rw [evalPart_none]
     exact ae ⟨some j,none,H2,I2, .int j t, .none,pW (Seq.step q1 st2) st2.gh k2⟩
   | some e'=>
    cases fu with
    | none=>exact hu.elim
    | some k'=>
     rw [evalPart_some]
     refine L2.thn (ME.thn hl I1 st1.gh (hS.step st1) hx k1) fun vu s2 hz_=> ?_
     obtain⟨y,d2,G2,H2,I2,r2,st2,q2,k2⟩:=hz_
     cases d2<;>try exact az k2
     rename_i j
     unfold Rep at q2;subst q2
     obtain⟨t,rfl⟩:=r2
     rw [evalPart_some]
     refine L2.thn (ME.thn hu I2 st2.gh ((hS.step st1).step st2) hx k2) fun vu s3 hz_=> ?_
     obtain⟨y3,d3,G3,H3,I3,r3,st3,q3,k3⟩:=hz_
     cases d3<;>try exact az k3
     rename_i j'
     unfold Rep at q3;subst q3
     obtain⟨t',rfl⟩:=r3
     exact⟨some j,some j',H3,I3, .int j t, .int j' t',pW (Seq.step (Seq.step q1 st2) st3) st3.gh k3⟩
end
section
variable {X:Cx} {ad:Ad} {pins:List (Addr×Obj)} {s:Shared} {σ:St} {H G:Hp} {ρ:Rho} {Q:VK} {E:Nat->Hp->Prop} {pos p:Pos} {a b c:Expr} {f g h:F}
theorem RK.impE {K:PySem.W.Frag} {r:R} {E E':Nat->Hp->Prop} (h:RK K ad G H r Q E) (k: ∀ c H',E c H'->E' c H'):RK K ad G H r Q E':=by
 cases r with
 | ok d=>exact h
 | ow xs=>exact h
 | ex c=>exact fun G' H' st=>k c H' (h G' H' st)
 | bad=>exact h
def LK (X:Cx) (ad:Ad) (G H:Hp) (r:R) (Q:VK) (E:Nat->Hp->Prop):Prop:=match r with
 | .ok d=> ∀ v G' H',Step G H G' H'->Seq X ad G' H' d v->Q v H'
 | .ow xs=> ∀ p vs G' H',Step G H G' H'->H p=none->G' p=none->H' p=some (.lst vs)->aF X.K ad G' xs vs->Q (.ref p) H'
 | .ex c=> ∀ G' H',Step G H G' H'->E c H'
 | .bad=>False
noncomputable def tL (X:Cx) (ad:Ad) (f:F):TE:=fun σ H Q=> ∃ G ρ E,Same G H/\SL X.K ad G H ρ σ/\XP X ad σ E/\LK X ad G H (f ρ) Q E
abbrev ML (X:Cx) (ad:Ad) (e:Expr) (f:F):Prop:=PE X e (tL X ad f)
theorem LK.rk {r:R} (h:LK X ad G H r Q E):RK X.K ad G H r Q E:=by
 cases r with
 | ok d=>exact fun v G' H' st q=>h v G' H' st (.inl q)
 | ow xs=>exact h
 | ex c=>exact h
 | bad=>exact h
theorem ME.ml (ha:ME X ad a f):ML X ad a f:=PE.imp ha fun σ H Q ⟨G,ρ,E,hG,hS,hx,hr⟩=>⟨G,ρ,E,hG,hS,hx,hr.rk⟩
theorem t6 {i:Nat} {x:Str} (hN:X.N[i]? =some x) (hv:Vis X.env.scope x) (hd:(x==("__debug__":Str))=false) (hcd:(x==("__classdict__":Str))=false):ML X ad (.Name x pos) (aT i):=by
 intro pins s σ H Q I ⟨G,ρ,E,hG,hS,hx,hr⟩
 unfold aT at hr
 cases e:ρ[i]? with
 | none=>
  rw [e] at hr
  exact hr.elim
 | some sl=>
  rw [e] at hr
  cases sl with
  | no=>exact hr.elim
  | dc kvs=>exact hr.elim
  | sd kvs=>exact hr.elim
  | rk _ _=>exact hr.elim
  | ow xs=>
   obtain⟨p,vs,h1,h2,h3,h4⟩:=hS.ow e
   exact aZ hN hv hd hcd pins s σ H Q I ⟨.ref p,h1,hr (.ref p) G H (Step.refl hG) (.inr ⟨p,vs,xs,rfl,rfl,h2,h3,h4⟩)⟩
  | sh d=>
   obtain⟨w,h1,h2⟩:=hS.sh e
   exact aZ hN hv hd hcd pins s σ H Q I ⟨w,h1,hr w G H (Step.refl hG) (.inl h2)⟩
theorem ML.lk (ha:ML X ad a f):MLk X ad a f:=by
 intro pins s σ H G ρ k Q E I hG hS hx hr
 cases e:f ρ with
 | ok d=>
  rw [e] at hr
  refine L2.thn (ha pins s σ H (fun v H1=> ∃ G1,Step G H G1 H1/\Seq X ad G1 H1 d v) I ⟨G,ρ,E,hG,hS,hx,by rw [e];exact fun v G1 H1 st q=>⟨G1,st,q⟩⟩) fun u s1 ⟨v,H1,I1,r1,G1,st,q⟩=> ?_
  exact⟨v,d,G1,H1,I1,r1,st,q,RK.step hr st⟩
 | ow xs=>
  rw [e] at hr
  refine L2.thn (ha pins s σ H (fun v H1=> ∃ G1,Step G H G1 H1/\Rep X.K ad G1 (.lst xs) v) I ⟨G,ρ,E,hG,hS,hx,by rw [e];exact fun p vs G1 H1 st n m e' q=>bF st n m e' q⟩) fun u s1 ⟨v,H1,I1,r1,G1,st,q⟩=> ?_
  exact⟨v, .lst xs,G1,H1,I1,r1,st, .inl q,RK.step hr st⟩
 | ex c=>
  rw [e] at hr
  refine L2.thn (ha pins s σ H (fun v H1=>False) I ⟨G,ρ,E,hG,hS,hx,by rw [e];exact hr⟩) fun u s1 ⟨v,H1,I1,r1,q⟩=>q.elim
 | bad=>
  rw [e] at hr
  exact az hr
theorem t7 {k:D->R} {σ:St} {H:Hp} {Q Q':VK} (hG:Same G H) (hS:SL X.K ad G H ρ σ) (hx:XP X ad σ E) (hr:RK X.K ad G H ((f ρ).bind k) Q E)
  (q: ∀ v d G1 H1,Step G H G1 H1->Seq X ad G1 H1 d v->RK X.K ad G1 H1 (k d) Q E->Q' v H1):tL X ad f σ H Q':=by
 refine⟨G,ρ,E,hG,hS,hx, ?_⟩
 cases e:f ρ with
 | ok d=>
  rw [e] at hr
  exact fun v G1 H1 st r=>q v d G1 H1 st r (RK.step hr st)
 | ow xs=>
  rw [e] at hr
  intro p vs G1 H1 st n m e' r
  obtain⟨G2,st2,r2⟩:=bF (X:=X) (ad:=ad) st n m e' r
  exact q _ _ G2 H1 st2 (.inl r2) (RK.step hr st2)
 | ex c=>
  rw [e] at hr
  exact hr
 | bad=>
  rw [e] at hr
  exact hr
theorem pX {k:List D->R}:nH [f] ρ k=(f ρ).bind fun x=>k [x]:=by
 unfold nH args
 cases f ρ<;>rfl
def BOp (X:Cx) (ad:Ad) (fv:Value) (r:Fn):Prop:=
 ∀ (pins:List (Addr×Obj)) (s:Shared) (σ:St) (H G:Hp) (x:D) (v:V) (u:Value) (Q:VK) (E:Nat->Hp->Prop),Inv X pins σ H s->Same G H->Seq X ad G H x v->aP v u->RK X.K ad G H (r [x]) Q E->
  wpAny (model X.prog X.w) X.A (call fv [u]) (EP X pins σ Q) X.xe s
theorem iS {x:Str} {id:String} {r:Fn} (ho:BOp X ad (.builtin id) r) (hg:L2.Gl X x) (hm:X.mg x=none) (hv:bootBuiltins x=some (.builtin id)) (ha:ML X ad a f) (hn:x≠"__name__") (hdb:(x==("__debug__":Str))=false)
  (he:starEach [a] X.env=(false,eval a X.env)::starEach [] X.env):ME X ad (.Call (.Name x p) [a] [] pos) (aD r [f]):=by
 intro pins s σ H Q I ⟨G,ρ,E,hG,hS,hx,hr⟩
 refine wpAny_Call_Name_kw (fR I hg hm hv ?_ hn hdb)
 unfold aD at hr
 rw [pX] at hr
 refine PyProof.Rows.callWith_builtin1 (L2.thn (bE ha cL he pos pins s σ H (fun vs H1=> ∃ v d G1,vs=[v]/\Step G H G1 H1/\Seq X ad G1 H1 d v/\RK X.K ad G1 H1 (r [d]) Q E) I ?_) fun us s1 ⟨vs,H1,I1,r1,v,d,G1,e1,st,q,k⟩=> ?_) he rfl
 ·exact t7 hG hS hx hr fun v d G1 H1 st q k=>⟨v,d,G1,rfl,st,q,k⟩
 ·subst e1
  obtain⟨u,rfl,ru⟩:=lQ r1
  exact ho pins s1 σ H1 G1 d v u Q E I1 st.gh q ru k
theorem t9 {x:Str} {T:String} {r:Fn} (ho:BOp X ad (.type T) r) (hg:L2.Gl X x) (hm:X.mg x=none) (hv:bootBuiltins x=some (.type T)) (ha:ML X ad a f) (hn:x≠"__name__") (hdb:(x==("__debug__":Str))=false)
  (he:starEach [a] X.env=(false,eval a X.env)::starEach [] X.env):ME X ad (.Call (.Name x p) [a] [] pos) (aD r [f]):=by
 intro pins s σ H Q I ⟨G,ρ,E,hG,hS,hx,hr⟩
 refine wpAny_Call_Name_kw (fR I hg hm hv ?_ hn hdb)
 unfold aD at hr
 rw [pX] at hr
 refine PyProof.Rows.callWith_type1 (L2.thn (bE ha cL he pos pins s σ H (fun vs H1=> ∃ v d G1,vs=[v]/\Step G H G1 H1/\Seq X ad G1 H1 d v/\RK X.K ad G1 H1 (r [d]) Q E) I ?_) fun us s1 ⟨vs,H1,I1,r1,v,d,G1,e1,st,q,k⟩=> ?_) he rfl
 ·exact t7 hG hS hx hr fun v d G1 H1 st q k=>⟨v,d,G1,rfl,st,q,k⟩
 ·subst e1
  obtain⟨u,rfl,ru⟩:=lQ r1
  exact ho pins s1 σ H1 G1 d v u Q E I1 st.gh q ru k
theorem uA:BOp X ad (.builtin "len") nI:=by
 intro pins s σ H G x v u Q E I hG q ru hr
 have hr':RK X.K ad G H (match items x with | some xs=> .ok (.int xs.length) | none=>aNk x) Q E:=hr
 cases e:items x with
 | none=>
  rw [e] at hr'
  cases x with
  | str z=>
   have hr2:RK X.K ad G H (if z.length<=100000 then .ok (.int z.length) else .bad) Q E:=hr'
   by_cases hl:z.length<=100000
   ·rw [if_pos hl] at hr2
    rcases q with q | ⟨_,_,_,y,_⟩
    ·unfold Rep at q;subst q
     exact l4 pins s σ H _ [u] Q I (.cons ru .nil) ⟨_,rfl,Nat.le_trans hl (by decide),hr2.ok_now hG aQ⟩
    ·cases y
   ·rw [if_neg hl] at hr2;exact hr2.elim
  | _=>exact az hr'
 | some ds=>
  rw [e] at hr'
  obtain⟨p,vs,rfl,hq,rq⟩:=q.items hG e
  have hq':SqL X.K H p vs\/SqT X.K H p vs:=hq.elim (fun z=> .inr z.2) fun z=> .inl z.2
  refine lZ pins s σ H [.ref p] [u] Q I (.cons ru .nil) ⟨p,vs,rfl,hq', ?_⟩
  rw [rq.length]
  exact hr'.ok_now hG aQ
theorem aC9:BOp X ad (.type "int") aHp:=by
 intro pins s σ H G x v u Q E I hG q ru hr
 cases x<;>try exact az hr
 ·rcases q with q | ⟨_,_,_,z,_⟩
  ·unfold Rep at q;subst q
   exact lR pins s σ H _ [u] Q I (.cons ru .nil) (.inr ⟨_,rfl,hr.ok_now hG aQ⟩)
  ·cases z
 ·rcases q with q | ⟨_,_,_,z,_⟩
  ·unfold Rep at q;subst q
   exact lR pins s σ H _ [u] Q I (.cons ru .nil) (.inl ⟨_,rfl,hr.ok_now hG aQ⟩)
  ·cases z
theorem yC:BOp X ad (.type "list") aCn:=by
 intro pins s σ H G x v u Q E I hG q ru hr
 have hr':RK X.K ad G H (match items x with | some xs=> .ow xs | none=> .bad) Q E:=hr
 cases e:items x with
 | none=>rw [e] at hr';exact hr'.elim
 | some ds=>
  rw [e] at hr'
  obtain⟨p,vs,rfl,hq,rq⟩:=q.items hG e
  have hq':SqL X.K H p vs\/SqT X.K H p vs:=hq.elim (fun z=> .inr z.2) fun z=> .inl z.2
  exact l6 pins s σ H [.ref p] [u] Q I (.cons ru .nil) ⟨p,vs,rfl,hq',fun l hl=>hr'.ow_new hG rq hl⟩
theorem uB:BOp X ad (.type "tuple") mC:=by
 intro pins s σ H G x v u Q E I hG q ru hr
 have hr':RK X.K ad G H (match items x with | some xs=> .ok (.tup xs) | none=> .bad) Q E:=hr
 cases e:items x with
 | none=>rw [e] at hr';exact hr'.elim
 | some ds=>
  rw [e] at hr'
  obtain⟨p,vs,rfl,hq,rq⟩:=q.items hG e
  rcases hq with ⟨e2,hq⟩ | ⟨e2,hq⟩
  ·refine fS pins s σ H [.ref p] [u] Q I (.cons ru .nil) ⟨p,vs,rfl, .inr ⟨hq,hr'.ok_now hG ?_⟩⟩
   rcases q with q | ⟨_,_,_,z,_⟩
   ·rw [e2] at q;exact q
   ·rw [e2] at z;cases z
  ·exact fS pins s σ H [.ref p] [u] Q I (.cons ru .nil) ⟨p,vs,rfl, .inl ⟨hq,fun l hl=>hr'.tup_new hG rq hl⟩⟩
theorem mJ: ∀ {ds:List D} {ns:List Int} {vs:List V},eL ds=some ns->aF X.K ad G ds vs->vs=ns.map V.int
 | [],ns,vs,e,r=>by
  cases e
  unfold aF at r
  exact r
 | d::ds,ns,vs,e,r=>by
  cases d<;>try (unfold eL at e;cases e)
  rename_i i
  unfold eL at e
  obtain⟨ms,e1,e2⟩:=zMd e
  subst e2
  unfold aF at r
  obtain⟨v,r',rfl,r1,r2⟩:=r
  unfold Rep at r1
  subst r1
  rw [mJ e1 r2]
  rfl
theorem gL: ∀ {ds:List D} {ns:List Bool} {vs:List V},eG ds=some ns->aF X.K ad G ds vs->vs=ns.map V.bl
 | [],ns,vs,e,r=>by
  cases e
  unfold aF at r
  exact r
 | d::ds,ns,vs,e,r=>by
  cases d<;>try (unfold eG at e;cases e)
  rename_i i
  unfold eG at e
  obtain⟨ms,e1,e2⟩:=zMd e
  subst e2
  unfold aF at r
  obtain⟨v,r',rfl,r1,r2⟩:=r
  unfold Rep at r1
  subst r1
  rw [gL e1 r2]
  rfl
theorem kU {A:Around} (hh:A.handled=none) (I:Inv X pins σ H s) {p:Addr} {vs:List V} (hq:SqL X.K H p vs\/SqT X.K H p vs) {Ex:Value->Shared->Prop} {Q':Value->Shared->Prop}
  (k: ∀ (its:List Value) (s2:Shared) (I':Addr) (fp wr:List Addr) (Stt:Nat->Heap->Prop),aY vs its->Walks X.prog X.w A I' fp wr its.length (fun i v=>its[i]? =some v) Stt->Stt 0 s2.heap->(∀ b∈fp,b<s2.heap.objs.size)->s2.os=s.os->s2.gens=s.gens->s2.drawn=s.drawn->
   (∀ b o,s.heap.get? b=some o->b∉wr)->(∀ b o,s.heap.get? b=some o->s2.heap.get? b=some o)->Q' (.ref I') s2):wpAny (model X.prog X.w) A (pyIter (.ref p)) Q' Ex s:=by
 rcases hq with hq | hq
 ·obtain⟨its,rv,pl,_⟩:=I.list hq
  have hlt:p<s.heap.objs.size:=by obtain⟨o,n,e,_⟩:=pl;exact ah e
  refine wpAny_pyIter_list pl.isList (k its _ s.heap.objs.size [s.heap.objs.size,p] [s.heap.objs.size] (fun i h=>h.IsListIter s.heap.objs.size p i/\h.IsList p its.toArray) rv ?_ (And.intro ⟨_,ag _ rfl,rfl,rfl⟩ ?_) ?_ rfl rfl rfl ?_ ?_)
  ·have W:=Walks.list (prog:=X.prog) (w:=X.w) hh s.heap.objs.size p (bh hlt) its.toArray
   simpa using W
  ·obtain⟨o,n,e,c,d⟩:=pl
   exact⟨o,af _ e,c,n,d.2⟩
  ·intro b hb
   rcases au.mp hb with rfl | hb
   ·rw [ai];exact Nat.lt_succ_self _
   ·have:b=p:=by simpa using hb
    subst this
    rw [ai];exact Nat.lt_succ_of_lt hlt
  ·intro b o e hb
   have:b=s.heap.objs.size:=by simpa using hb
   subst this
   exact absurd (ah e) (Nat.lt_irrefl _)
  ·exact fun b o e=>af _ e
 ·obtain⟨its,rv,pl,_⟩:=I.tuple hq
  have hlt:p<s.heap.objs.size:=pl.lt
  refine wpAny_pyIter_tuple (show s.heap.IsTuple p its.toArray from pl) (k its _ s.heap.objs.size [s.heap.objs.size,p] [s.heap.objs.size] (fun i h=>h.IsTupleIter s.heap.objs.size p i/\h.IsTuple p its.toArray) rv ?_ (And.intro ⟨_,ag _ rfl,rfl,rfl⟩ ?_) ?_ rfl rfl rfl ?_ ?_)
  ·have W:=Walks.tuple (prog:=X.prog) (w:=X.w) hh s.heap.objs.size p (bh hlt) its.toArray
   simpa using W
  ·obtain⟨o,e,c⟩:=pl
   exact⟨o,af _ e,c⟩
  ·intro b hb
   rcases au.mp hb with rfl | hb
   ·rw [ai];exact Nat.lt_succ_self _
   ·have:b=p:=by simpa using hb
    subst this
    rw [ai];exact Nat.lt_succ_of_lt hlt
  ·intro b o e hb
   have:b=s.heap.objs.size:=by simpa using hb
   subst this
   exact absurd (ah e) (Nat.lt_irrefl _)
  ·exact fun b o e=>af _ e
end
section
variable {X:Cx} {ad:Ad} {pins:List (Addr×Obj)} {s:Shared} {σ:St} {H G:Hp} {ρ:Rho} {Q:VK} {E:Nat->Hp->Prop} {pos p:Pos} {a b c:Expr} {f g h:F}
theorem _root_.L2.Inv.moved {wr:List Addr} {s2 s':Shared} (I:Inv X pins σ H s) (k1: ∀ b o,s.heap.get? b=some o->s2.heap.get? b=some o) (k2: ∀ b o,s.heap.get? b=some o->b∉wr) (e1:s2.os=s.os) (e2:s2.gens=s.gens) (e3:s2.drawn=s.drawn)
  (m:Moved wr (fun a b=>b=a) s2 s'):Inv X pins σ H s':=by
 have e:s'={ s with heap:=s'.heap,toks:=s'.toks }:=by
  obtain⟨h',g',d',t',o'⟩:=s'
  obtain⟨m1,m2,m3,m4,m5⟩:=m
  simp only at m2 m3 m4 ⊢
  rw [m2,m3,m4,e1,e2,e3]
 rw [e]
 exact I.kept fun b o q=>m.heap b o (k2 b o q) (k1 b o q)
theorem aIl {ns:List Int} {its:List Value} (r:aY (ns.map V.int) its) {i:Nat} {v:Value} (e:its[i]? =some v): ∃ t,v= .int (ns.getD i 0) t:=by
 have hl:=r.length
 have hi:i<its.length:=(ax.mp e).1
 have hi':i<ns.length:=by rw [ao] at hl;omega
 have e1:(ns.map V.int)[i]? =some (V.int ns[i]):=by simp [hi']
 obtain⟨u,e2,t,e3⟩:=r.get e1
 rw [e] at e2
 cases e2
 refine⟨t, ?_⟩
 rw [e3]
 simp [List.getD,hi']
theorem aDa (hh:X.A.handled=none):BOp X ad (.builtin "sum") xE:=by
 intro pins s σ H G x v u Q E I hG q ru hr
 have hr':RK X.K ad G H (match(items x).bind eL with | some xs=> .ok (.int xs.sum) | none=> .bad) Q E:=hr
 cases e:items x with
 | none=>rw [e] at hr';exact hr'.elim
 | some ds=>
  rw [e] at hr'
  have hr2:RK X.K ad G H (match eL ds with | some xs=> .ok (.int xs.sum) | none=> .bad) Q E:=hr'
  cases e2:eL ds with
  | none=>rw [e2] at hr2;exact hr2.elim
  | some ns=>
   rw [e2] at hr2
   obtain⟨p,vs,rfl,hq,rq⟩:=q.items hG e
   have hq':SqL X.K H p vs\/SqT X.K H p vs:=hq.elim (fun z=> .inr z.2) fun z=> .inl z.2
   cases (show u=Value.ref p from ru)
   have ev:=mJ e2 rq
   subst ev
   refine call_sum_walkAnyS (kU (A:=X.A.in1) hh I hq' fun its s2 I' fp wr Stt rv W st hfp h1 h2 h3 h4 h5=> ?_)
   refine⟨I',fp,wr,_,its.length,_,_,fun i=>ns.getD i 0,rfl,W.toS,st,hfp,fun i v e=>aIl rv e,fun s' t' m=> ?_⟩
   refine⟨.int ns.sum,H,I.moved h5 h4 h1 h2 h3 m,⟨t', ?_⟩,hr2.ok_now hG aQ⟩
   rw [preSum_getD, <-rv.length,ao,List.take_length]
theorem aIm {ns:List Bool} {its:List Value} (r:aY (ns.map V.bl) its) {i:Nat} {v:Value} (e:its[i]? =some v):v= .bool (ns.getD i false):=by
 have hl:=r.length
 have hi:i<its.length:=(ax.mp e).1
 have hi':i<ns.length:=by rw [ao] at hl;omega
 have e1:(ns.map V.bl)[i]? =some (V.bl ns[i]):=by simp [hi']
 obtain⟨u,e2,e3⟩:=r.get e1
 rw [e] at e2
 cases e2
 have e4:v= .bool ns[i]:=e3
 rw [e4]
 simp [List.getD,hi']
theorem uC (ns:List Bool):(List.range ns.length).all (fun i=>ns.getD i false)=ns.all id:=by
 induction ns with
 | nil=>rfl
 | cons x xs ih=>
  rw [bq,List.range_succ_eq_map,List.all_cons,List.all_map,List.all_cons]
  have:(List.range xs.length).all ((fun i=>(x::xs).getD i false) ∘ Nat.succ)=xs.all id:=by
   rw [<-ih]
   rfl
  rw [this]
  rfl
theorem uD (ns:List Bool):(List.range ns.length).any (fun i=>ns.getD i false)=ns.any id:=by
 induction ns with
 | nil=>rfl
 | cons x xs ih=>
  rw [bq,List.range_succ_eq_map,List.any_cons,List.any_map,List.any_cons]
  have:(List.range xs.length).any ((fun i=>(x::xs).getD i false) ∘ Nat.succ)=xs.any id:=by
   rw [<-ih]
   rfl
  rw [this]
  rfl
theorem aDb (hh:X.A.handled=none):BOp X ad (.builtin "all") aF2:=by
 intro pins s σ H G x v u Q E I hG q ru hr
 have hr':RK X.K ad G H (match(items x).bind eG with | some xs=> .ok (.bl (xs.all id)) | none=> .bad) Q E:=hr
 cases e:items x with
 | none=>rw [e] at hr';exact hr'.elim
 | some ds=>
  rw [e] at hr'
  have hr2:RK X.K ad G H (match eG ds with | some xs=> .ok (.bl (xs.all id)) | none=> .bad) Q E:=hr'
  cases e2:eG ds with
  | none=>rw [e2] at hr2;exact hr2.elim
  | some ns=>
   rw [e2] at hr2
   obtain⟨p,vs,rfl,hq,rq⟩:=q.items hG e
   have hq':SqL X.K H p vs\/SqT X.K H p vs:=hq.elim (fun z=> .inr z.2) fun z=> .inl z.2
   cases (show u=Value.ref p from ru)
   have ev:=gL e2 rq
   subst ev
   refine call_all_walkS (kU (A:=X.A.in1) hh I hq' fun its s2 I' fp wr Stt rv W st hfp h1 h2 h3 h4 h5=> ?_)
   refine⟨I',fp,wr,_,its.length,_,_,fun i=>ns.getD i false,rfl,W.toS,st, ?_,fun s' m=> ?_⟩
   ·intro i v s' Q' E' e3 hQ
    rw [aIm rv e3]
    exact wpAny_truthy_bool hQ
   ·refine⟨.bl _,H,I.moved h5 h4 h1 h2 h3 m, ?_,hr2.ok_now hG aS⟩
    rw [<-rv.length,ao,uC]
    rfl
theorem aDc (hh:X.A.handled=none):BOp X ad (.builtin "any") aKk:=by
 intro pins s σ H G x v u Q E I hG q ru hr
 have hr':RK X.K ad G H (match(items x).bind eG with | some xs=> .ok (.bl (xs.any id)) | none=> .bad) Q E:=hr
 cases e:items x with
 | none=>rw [e] at hr';exact hr'.elim
 | some ds=>
  rw [e] at hr'
  have hr2:RK X.K ad G H (match eG ds with | some xs=> .ok (.bl (xs.any id)) | none=> .bad) Q E:=hr'
  cases e2:eG ds with
  | none=>rw [e2] at hr2;exact hr2.elim
  | some ns=>
   rw [e2] at hr2
   obtain⟨p,vs,rfl,hq,rq⟩:=q.items hG e
   have hq':SqL X.K H p vs\/SqT X.K H p vs:=hq.elim (fun z=> .inr z.2) fun z=> .inl z.2
   cases (show u=Value.ref p from ru)
   have ev:=gL e2 rq
   subst ev
   refine call_any_walkS (kU (A:=X.A.in1) hh I hq' fun its s2 I' fp wr Stt rv W st hfp h1 h2 h3 h4 h5=> ?_)
   refine⟨I',fp,wr,_,its.length,_,_,fun i=>ns.getD i false,rfl,W.toS,st, ?_,fun s' m=> ?_⟩
   ·intro i v s' Q' E' e3 hQ
    rw [aIm rv e3]
    exact wpAny_truthy_bool hQ
   ·refine⟨.bl _,H,I.moved h5 h4 h1 h2 h3 m, ?_,hr2.ok_now hG aS⟩
    rw [<-rv.length,ao,uD]
    rfl
theorem aO4 {α:Type} {ds:List α} (h:ds.length=2): ∃ d e,ds=[d,e]:=by
 cases ds with
 | nil=>cases h
 | cons d r=>
  cases r with
  | nil=>cases h
  | cons e r=>
   cases r with
   | nil=>exact⟨d,e,rfl⟩
   | cons _ _=>simp at h
theorem aF6 {x:Str} {id:String} {r:Fn} {op:Int->Int->Int} (hd: ∀ i j,r [.int i, .int j]= .ok (.int (op i j))) (hb0: ∀ x y Q E G H,RK X.K ad G H (r [x,y]) Q E-> ∃ i j,x= .int i/\y= .int j)
  (ho:jG X (.builtin id) (fun xs H Q=> ∃ i j,xs=[.int i, .int j]/\Q (.int (op i j)) H)) (hg:L2.Gl X x) (hm:X.mg x=none) (hv:bootBuiltins x=some (.builtin id)) (ha:ME X ad a f) (hb:ME X ad b g) (hn:x≠"__name__")
  (hdb:(x==("__debug__":Str))=false) (he:starEach [a,b] X.env=(false,eval a X.env)::starEach [b] X.env) (he2:starEach [b] X.env=(false,eval b X.env)::starEach [] X.env):ME X ad (.Call (.Name x p) [a,b] [] pos) (aD r [f,g]):=by
 refine PE.imp (pH (id:=id) ho hg hm hv (oF ha (oF hb aA6 he2) he) hn hdb he (by rw [he2];rfl)) ?_
 rintro σ H Q ⟨G,ρ,E,hG,hS,hx,hr⟩
 refine oG hG hS hx hr fun vs ds G1 H1 st rq hl k=> ?_
 obtain⟨d,e,rfl⟩:=aO4 hl
 obtain⟨i,j,rfl,rfl⟩:=hb0 d e Q E G1 H1 k
 unfold aF at rq
 obtain⟨v,r',rfl,r1,r2⟩:=rq
 unfold aF at r2
 obtain⟨v',r'',rfl,r3,r4⟩:=r2
 unfold aF at r4
 subst r4
 unfold Rep at r1 r3
 subst r1;subst r3
 rw [hd] at k
 exact⟨i,j,rfl,k.ok_now st.gh aQ⟩
noncomputable def aDd (K:PySem.W.Frag) (ad:Ad) (n:Nat) (F:Fn):Sp:=fun vs H Q E=> ∃ G ds,Same G H/\aF K ad G ds vs/\ds.length=n/\RK K ad G H (F ds) Q (fun c H'=>E (.ref (ad.cls c)) none H')
theorem uE {CX:CXT} {k:Nat} {f:Addr} {fd:FuncData} {ps:List Str} {sp:Sp} {E:XK} {us:List Value} {vs:List V} (F:FnOk X.prog X.w X.K X.mg X.base CX k f fd ps sp) (hr:Room k X.A) (hb:eK X.K fd ps [])
  (I:Inv X pins σ H s) (r:aY vs us) (h:sp vs H Q E) (hx: ∀ e s',CX X.stack H s E e s'->X.xe e s'):wpAny (model X.prog X.w) X.A (call (.ref f) us) (EP X pins σ Q) X.xe s:=by
 have hl:(us++[]).length=ps.length:=by rw [List.append_nil, <-r.length];exact F.len _ _ _ _ h
 refine wpAny_call (codeAny_mono (F.run X.A X.stack s H ⟨us,[]⟩ us vs Q E hr I.env0 (by have:=hb s us I.kIn hl;rwa [List.append_nil] at this) r h) fun r s' hq=> ?_)
 cases r with
 | error e=>exact hx e s' hq
 | ok fl=>
  cases fl with
  | ret u=>exact I.after hq
  | next=>exact az hq
  | brk=>exact az hq
  | cont=>exact az hq
structure FnGood (X:Cx) (ad:Ad) (k:Nat) (x:Str) (n:Nat) (F:Fn) (f:Addr):Prop where
 mg:X.mg x=some (.ref f)
 kp:PySem.W.keepIn X.K (.ref f)=true
 ok: ∃ fd ps,FnOk X.prog X.w X.K X.mg X.base (CXe X.prog X.w) k f fd ps (aDd X.K ad n F)/\eK X.K fd ps []
theorem uF {k n:Nat} {x:Str} {F:Fn} {f:Addr} {us:List Value} {vs:List V} {ds:List D} (T:FnGood X ad k x n F f) (hr:Room k X.A) (I:Inv X pins σ H s) (hG:Same G H) (hx:XP X ad σ E) (r:aY vs us) (rq:aF X.K ad G ds vs) (hl:ds.length=n)
  (h:RK X.K ad G H (F ds) Q E):wpAny (model X.prog X.w) X.A (call (.ref f) us) (EP X pins σ Q) X.xe s:=by
 obtain⟨fd,ps,F',hb⟩:=T.ok
 exact uE (E:=xk ad E) F' hr hb I r ⟨G,ds,hG,rq,hl,h.impE fun c H' e=>⟨c,rfl,e⟩⟩ fun e s' hc=>hx pins H s e s' I hc
theorem aDe {k n:Nat} {x:Str} {F:Fn} {f:Addr} {es:List Expr} {fs:List SK.F} (T:FnGood X ad k x n F f) (hr:Room k X.A) (hg:L2.Gl X x) (hdb:(x==("__debug__":Str))=false) (ha:MA X ad (a::es) fs) (hn:fs.length=n)
  (he:starEach (a::es) X.env=(false,eval a X.env)::starEach es X.env) (hpl:(backTo pos (starEach es X.env)).any (·.1)=false):ME X ad (.Call (.Name x p) (a::es) [] pos) (aD F fs):=by
 intro pins s σ H Q I ⟨G,ρ,E,hG,hS,hx,hr'⟩
 refine wpAny_Call_Name_kw (gH I hg T.mg ?_ hdb)
 refine PySem.W.callWith_K (h₀:=X.base) I.ok.mod.kin T.kp (L2.thn (ha pos pins s σ H (fun vs H1=> ∃ ds G1,Step G H G1 H1/\aF X.K ad G1 ds vs/\ds.length=fs.length/\RK X.K ad G1 H1 (F ds) Q E) I
  (oG hG hS hx hr' fun vs ds G1 H1 st rq hl k=>⟨ds,G1,st,rq,hl,k⟩)) fun us s1 ⟨vs,H1,I1,r,ds,G1,st,rq,hl,k⟩=>⟨I1.kIn, ?_⟩) he hpl
 exact uF T hr I1 st.gh hx r rq (hl.trans hn) k
structure FnAt (X:Cx) (ad:Ad) (k:Nat) (n:Nat) (F:Fn) (f:Addr):Prop where
 kp:PySem.W.keepIn X.K (.ref f)=true
 ok: ∃ fd ps,FnOk X.prog X.w X.K X.mg X.base (CXe X.prog X.w) k f fd ps (aDd X.K ad n F)/\eK X.K fd ps []
end
noncomputable def iT (cells:List (Str×Addr)):List (Str×NameKind)->List (Str×Addr)->List (Str×Addr)
 | [],acc=>acc
 | (x,k)::r,acc=>iT cells r (if k== .free then(x,(cells.lookup x).getD 0)::acc else acc)
theorem hU {cells:List (Str×Addr)}: ∀ {ns:List (Str×NameKind)} {acc:List (Str×Addr)} {x:Str} {c:Addr},(iT cells ns acc).lookup x=some c->(∃ k,(x,k)∈ns/\k= .free/\c=(cells.lookup x).getD 0)\/acc.lookup x=some c
 | [],acc,x,c,h=> .inr h
 | (y,k)::r,acc,x,c,h=>by
  rcases hU (ns:=r) h with ⟨k',h1,h2,h3⟩ | h
  ·exact .inl ⟨k', .tail _ h1,h2,h3⟩
  ·by_cases hk:(k==NameKind.free)=true
   ·rw [if_pos hk,List.lookup_cons] at h
    cases hx:x==y with
    | true=>
     rw [hx] at h
     have e:x=y:=eq_of_beq hx
     subst e
     exact .inl ⟨k, .head _,eq_of_beq hk,(Option.some.inj h).symm⟩
    | false=>
     rw [hx] at h
     exact .inr h
   ·rw [if_neg hk] at h
    exact .inr h
theorem pY {cells:List (Str×Addr)}: ∀ {ns:List (Str×NameKind)} {acc:List (Str×Addr)} {x:Str},(acc.lookup x).isSome=true->((iT cells ns acc).lookup x).isSome=true
 | [],_,_,h=>h
 | (y,k)::r,acc,x,h=>by
  refine pY (ns:=r) ?_
  by_cases hk:(k==NameKind.free)=true
  ·rw [if_pos hk,List.lookup_cons]
   cases x==y with
   | true=>rfl
   | false=>exact h
  ·rw [if_neg hk]
   exact h
theorem hV {cells:List (Str×Addr)}: ∀ {ns:List (Str×NameKind)} {acc:List (Str×Addr)} {x:Str},(x,NameKind.free)∈ns->((iT cells ns acc).lookup x).isSome=true
 | [],_,_,h=>nomatch h
 | (y,k)::r,acc,x,h=>by
  rcases au.mp h with e | h
  ·cases e
   refine pY (ns:=r) ?_
   rw [if_pos (by rfl),List.lookup_cons,beq_self_eq_true]
   rfl
  ·exact hV (ns:=r) h
theorem gM {sc:Scope} {env:PySem.Env} (h: ∀ x,(x,NameKind.free)∈sc.names->(env.cells.lookup x).isSome=true):closureFor sc env=pure (iT env.cells sc.names []):=by
 have go: ∀ (ns:List (Str×NameKind)) (acc:List (Str×Addr)),(∀ x,(x,NameKind.free)∈ns->(env.cells.lookup x).isSome=true)->
   (forIn ns acc (fun(p:Str×NameKind) (cs:List (Str×Addr))=>if p.2== .free then do let c<-cellOf env p.1;pure (ForInStep.yield ((p.1,c)::cs)) else pure (ForInStep.yield cs)):Sem (List (Str×Addr)))=pure (iT env.cells ns acc):=by
  intro ns
  induction ns with
  | nil=>intro acc _;rfl
  | cons p r ih=>
   intro acc hp
   obtain⟨x,k⟩:=p
   rw [List.forIn_cons]
   by_cases hk:(k==NameKind.free)=true
   ·have ek:k= .free:=eq_of_beq hk
    subst ek
    obtain⟨c,hc⟩:=Option.isSome_iff_exists.mp (hp x (.head _))
    have e1:cellOf env x=pure c:=by unfold cellOf;rw [hc]
    have e2:=ih ((x,c)::acc) fun y hy=>hp y (.tail _ hy)
    simp only [beq_self_eq_true,if_true,e1]
    show(forIn r ((x,c)::acc) _:Sem (List (Str×Addr)))=_
    rw [e2]
    show pure _=pure (iT env.cells r (if(NameKind.free==NameKind.free)=true then(x,(env.cells.lookup x).getD 0)::acc else acc))
    rw [if_pos (by rfl),hc]
    rfl
   ·simp only [hk]
    show(forIn r acc _:Sem (List (Str×Addr)))=_
    rw [ih acc fun y hy=>hp y (.tail _ hy)]
    show pure _=pure (iT env.cells r (if(k==NameKind.free)=true then _ else acc))
    rw [if_neg hk]
 have e:=go sc.names [] h
 have e2:closureFor sc env=((forIn sc.names ([]:List (Str×Addr)) (fun(p:Str×NameKind) (cs:List (Str×Addr))=>if p.2== .free then do let c<-cellOf env p.1;pure (ForInStep.yield ((p.1,c)::cs)) else pure (ForInStep.yield cs)):Sem (List (Str×Addr))) >>= fun cs=>pure cs):=rfl
 rw [e2,e]
 rfl
theorem bH {env:PySem.Env} {x:Str}: ∀ {names:List (Str×NameKind)},(names.map fun(n,k)=>if(k==NameKind.free&&env.scope.kind== .function&&env.kindOf n==some .cell) then(n,NameKind.cell) else(n,k)).lookup x=
  (names.lookup x).map fun k=>if(k==NameKind.free&&env.scope.kind== .function&&env.kindOf x==some .cell) then NameKind.cell else k
 | []=>rfl
 | (n,k)::r=>by
  rw [List.map_cons]
  have ih:= @bH env x r
  show List.lookup x ((if(k==NameKind.free&&env.scope.kind== .function&&env.kindOf n==some .cell)=true then(n,NameKind.cell) else(n,k))::_)=_
  by_cases hc:(k==NameKind.free&&env.scope.kind== .function&&env.kindOf n==some .cell)=true
  ·rw [if_pos hc,List.lookup_cons,List.lookup_cons]
   cases hx:x==n with
   | true=>
    have e:x=n:=eq_of_beq hx
    subst e
    simp only [Option.map,hc,if_true]
   | false=>exact ih
  ·rw [if_neg hc,List.lookup_cons,List.lookup_cons]
   cases hx:x==n with
   | true=>
    have e:x=n:=eq_of_beq hx
    subst e
    simp only [Option.map]
    rw [if_neg hc]
   | false=>exact ih
noncomputable def aKp:Nat->Nat->TGs
 | _,0=>aK7
 | j,n+1=>aB7 (iE j) (aKp (j+1) n)
noncomputable def fE:Nat->List V->St->St
 | _,[],σ=>σ
 | j,v::r,σ=>fE (j+1) r (σ.set j (some v))
theorem uG: ∀ {vs:List V} {j:Nat} {σ:St} {H:Hp} {Q:St->Hp->Prop},Q (fE j vs σ) H->aKp j vs.length vs σ H Q
 | [],_,_,_,_,h=>⟨rfl,h⟩
 | v::r,j,σ,H,Q,h=>⟨v,r,rfl,uG (vs:=r) (j:=j+1) (σ:=σ.set j (some v)) h⟩
theorem d7: ∀ {vs:List V} {j:Nat} {σ:St},(fE j vs σ).length=σ.length
 | [],_,_=>rfl
 | v::r,j,σ=>by
  show(fE (j+1) r (σ.set j (some v))).length=_
  rw [d7 (vs:=r),List.length_set]
theorem iU: ∀ {vs:List V} {j i:Nat} {σ:St},j+vs.length<=i\/i<j->(fE j vs σ)[i]? =σ[i]?
 | [],_,_,_,_=>rfl
 | v::r,j,i,σ,h=>by
  show(fE (j+1) r (σ.set j (some v)))[i]? =_
  simp only [bq] at h
  rw [iU (vs:=r) (by omega),ba (by omega)]
theorem mK: ∀ {vs:List V} {j i:Nat} {σ:St} {v:V},vs[i]? =some v->j+vs.length<=σ.length->(fE j vs σ)[j+i]? =some (some v)
 | [],_,_,_,_,h,_=>by simp at h
 | w::r,j,0,σ,v,h,hl=>by
  simp at h
  subst h
  show(fE (j+1) r (σ.set j (some w)))[j]? =_
  rw [iU (vs:=r) (.inr (by omega)),bj (by simp only [bq] at hl;omega)]
 | w::r,j,i+1,σ,v,h,hl=>by
  show(fE (j+1) r (σ.set j (some w)))[j+(i+1)]? =_
  have e:j+(i+1)=(j+1)+i:=by omega
  rw [e]
  exact mK (vs:=r) (by simpa using h) (by simp only [bq,List.length_set] at hl ⊢;omega)
section
variable {X:Cx} {ad:Ad}
theorem mL (hN:X.N.Nodup): ∀ {es:List Expr} {xs:List Str} {j:Nat},dO (fun(e:Expr)=>match e with | .Name x _=>some x | _=>none) es=some xs->(∀ (i:Nat) (x:Str),xs[i]? =some x->X.N[j+i]? =some x/\X.env.scope.names.lookup x=some .local)->PGs X es (aKp j xs.length)
 | [],xs,j,e,_=>by
  cases e
  exact sQ
 | a::es,xs,j,e,h=>by
  unfold dO at e
  cases a<;>try (cases e)
  rename_i x px
  simp only at e
  obtain⟨r,e1,e2⟩:=zMd e
  subst e2
  obtain⟨h1,h2⟩:=h 0 x rfl
  refine pC (iF hN (by simpa using h1) (.inl h2) (.inr h2)) (mL hN e1 fun i y hy=> ?_) rfl
  obtain⟨h3,h4⟩:=h (i+1) y (by simpa using hy)
  exact⟨by rw [<-h3];congr 1;omega,h4⟩
noncomputable def gTg (K:PySem.W.Frag) (k:Nat):TG:=match k with
 | 0=>iE 0
 | n+1=>aGx K (n+1) (aKp 0 (n+1))
theorem aL2 {tg:Expr} {xs:List Str} {k:Nat} (hc:X.calm=true) (hN:X.N.Nodup) (e:bR tg=some (xs,k)) (h: ∀ (i:Nat) (x:Str),xs[i]? =some x->X.N[i]? =some x/\X.env.scope.names.lookup x=some .local):PG X tg (gTg X.K k):=by
 cases tg<;>try (cases e)
 ·rename_i x px
  obtain⟨h1,h2⟩:=h 0 x rfl
  exact iF hN h1 (.inl h2) (.inr h2)
 ·rename_i es j px
  unfold bR at e
  obtain⟨ys,e1,e2⟩:=zBd e
  by_cases hl:2<=ys.length
  ·rw [if_pos hl] at e2
   cases e2
   have P:=mL (X:=X) hN (j:=0) e1 fun i x hx=>by
    obtain⟨h1,h2⟩:=h i x hx
    exact⟨by rw [Nat.zero_add];exact h1,h2⟩
   have hlen:(assignEach es X.env).length=xs.length/\(assignEach es X.env).findIdx? (·.1)=none:=by
    clear P hl h e
    induction es generalizing xs with
    | nil=>cases e1;exact⟨rfl,rfl⟩
    | cons a r ih=>
     unfold dO at e1
     cases a<;>try (cases e1)
     rename_i z pz
     simp only at e1
     obtain⟨r',e3,e4⟩:=zMd e1
     subst e4
     obtain⟨i1,i2⟩:=ih e3
     have ec:assignEach (Expr.Name z pz::r) X.env=(false,assign (.Name z pz) X.env)::assignEach r X.env:=rfl
     rw [ec]
     refine⟨by simp [i1], ?_⟩
     rw [List.findIdx?_cons]
     simp [i2]
   obtain⟨n,hn⟩: ∃ n,xs.length=n+1:=⟨xs.length - 1,by omega⟩
   rw [hn] at P ⊢
   exact aAq hc P (by rw [<-hn];exact hlen.1) hlen.2
  ·rw [if_neg hl] at e2
   cases e2
end
structure ItH (X:Cx) (ad:Ad) (J:It) (G H:Hp) (ds:List D):Prop where
 go: ∀ (i:Nat) (G1 H1:Hp) (d:D),Step G H G1 H1->ds[i]? =some d->J.go i H1/\ ∀ x H2,J.yld i H1 x H2-> ∃ G2,Step G1 H1 G2 H2/\Rep X.K ad G2 d x
 stop: ∀ (G1 H1:Hp),Step G H G1 H1->J.stop ds.length H1
 few:ds.length<=sizeLine
def IK (X:Cx) (ad:Ad) (G H:Hp) (r:R) (W:It->Hp->Prop) (E:Nat->Hp->Prop):Prop:=match r with
 | .ok d=> ∃ ds,jT d=some ds/\ ∀ J G' H',Step G H G' H'->ItH X ad J G' H' ds->W J H'
 | .ow xs=> ∀ J G' H',Step G H G' H'->ItH X ad J G' H' xs->W J H'
 | .ex c=> ∀ G' H',Step G H G' H'->E c H'
 | .bad=>False
noncomputable def tI (X:Cx) (ad:Ad) (f:F):TI:=fun σ H W=> ∃ G ρ E,Same G H/\SL X.K ad G H ρ σ/\XP X ad σ E/\IK X ad G H (f ρ) W E
abbrev MI (X:Cx) (ad:Ad) (tg e:Expr) (f:F):Prop:=PI X tg e (tI X ad f)
def Cel (sc:Scope):Prop:=mD sc=[]\/ ∃ x,mD sc=[x]/\sc.names.lookup x=some .cell
theorem cf0: ∀ {ns:List (Str×NameKind)} {a:Nat} {acc:List (Str×Addr)},(ns.filter fun p=>p.2== .cell).map (·.1)=[]->cellsFrom a ns acc=acc/\ ∀ h,pushCells h ns=h
 | [],_,_,_=>⟨rfl,fun _=>rfl⟩
 | (y,k)::r,a,acc,e=>by
  by_cases hk:(k==NameKind.cell)=true
  ·simp [List.filter_cons,hk] at e
  ·have e':(r.filter fun p=>p.2== .cell).map (·.1)=[]:=by simpa [List.filter_cons,hk] using e
   obtain⟨h1,h2⟩:=cf0 (a:=a) (acc:=acc) e'
   unfold cellsFrom pushCells
   exact⟨by rw [if_neg hk];exact h1,fun h=>by rw [if_neg hk];exact h2 h⟩
theorem cf1: ∀ {ns:List (Str×NameKind)} {a:Nat} {acc:List (Str×Addr)} {x:Str},(ns.filter fun p=>p.2== .cell).map (·.1)=[x]->cellsFrom a ns acc=(x,a)::acc/\ ∀ h,pushCells h ns=h.push { cls:= .type "cell",data:= .cell none }
 | [],_,_,_,e=>by simp at e
 | (y,k)::r,a,acc,x,e=>by
  by_cases hk:(k==NameKind.cell)=true
  ·have e':y=x/\(r.filter fun p=>p.2== .cell).map (·.1)=[]:=by simpa [List.filter_cons,hk] using e
   obtain⟨rfl,e'⟩:=e'
   obtain⟨h1,h2⟩:=cf0 (a:=a+1) (acc:=(y,a)::acc) e'
   unfold cellsFrom pushCells
   exact⟨by rw [if_pos hk];exact h1,fun h=>by rw [if_pos hk];exact h2 _⟩
  ·have e':(r.filter fun p=>p.2== .cell).map (·.1)=[x]:=by simpa [List.filter_cons,hk] using e
   obtain⟨h1,h2⟩:=cf1 (a:=a) (acc:=acc) e'
   unfold cellsFrom pushCells
   exact⟨by rw [if_neg hk];exact h1,fun h=>by rw [if_neg hk];exact h2 h⟩
noncomputable def clC (X:Cx) (sc:Scope) (L:Addr):List (Str×Addr):=cellsFrom (L+1) sc.names (iT X.env.cells sc.names [])
theorem d8 {X:Cx} {sc:Scope} {L:Addr} {y:Str} {c:Addr} (hc:Cel sc) (h:(clC X sc L).lookup y=some c):(mD sc=[y]/\c=L+1)\/(iT X.env.cells sc.names []).lookup y=some c:=by
 unfold clC at h
 rcases hc with e | ⟨x,e,_⟩
 ·rw [(cf0 e).1] at h;exact .inr h
 ·rw [(cf1 e).1,List.lookup_cons] at h
  cases q:y==x with
  | true=>rw [q] at h;rw [eq_of_beq q];exact .inl ⟨e,(Option.some.inj h).symm⟩
  | false=>rw [q] at h;exact .inr h
theorem uH {X:Cx} {sc:Scope} {L:Addr} {x:Str} (e:mD sc=[x]):(clC X sc L).lookup x=some (L+1):=by
 unfold clC
 rw [(cf1 e).1,List.lookup_cons,beq_self_eq_true]
theorem pZ {X:Cx} {sc:Scope} {L:Addr} {y:Str} {c:Addr} (hc:Cel sc) (hy:sc.names.lookup y=some .free) (h:(iT X.env.cells sc.names []).lookup y=some c):(clC X sc L).lookup y=some c:=by
 unfold clC
 rcases hc with e | ⟨x,e,hx⟩
 ·rw [(cf0 e).1];exact h
 ·rw [(cf1 e).1,List.lookup_cons]
  cases q:y==x with
  | true=>rw [eq_of_beq q,hx] at hy;cases hy
  | false=>exact h
noncomputable def cX (X:Cx) (N':List Str) (sc:Scope) (s3:Shared) (H3:Hp) (fp:List Addr) (pins:List (Addr×Obj)):Cx:=
 { X with N:=N',s₀:=s3,H₀:=H3,env:=compEnvC sc (clC X sc s3.heap.objs.size) s3.heap.objs.size X.env,outer:=X.stack,stack:=X.stack,ex:=fp,fn:=fun y=>decide (mD sc=[y]),pn:=X.pn++pins,xe:=fun _ _=>False }
section
variable {X:Cx} {ad:Ad} {pins:List (Addr×Obj)} {s s3:Shared} {σ:St} {H H3 G:Hp} {ρ:Rho} {Q:VK} {E:Nat->Hp->Prop} {pos:Pos} {sc:Scope} {N':List Str} {fp:List Addr}
theorem yD {Y:Cx} {σ:St} (h:Y.xe=fun _ _=>False):XP Y ad σ (fun _ _=>False):=by
 intro pins H s e s' I hc
 obtain⟨ea,cls,a0,H',B,_,_,_,_,_,_,_,_,_,c,_,z⟩:=hc
 exact z.elim
theorem Un.sameBut {fs ex:List Addr} {H H':Hp} {h h1 h2:Heap} {C:Addr} (u:Un fs ex H H' h h1) (sb:Heap.SameBut C h1 h2) (hC:h.objs.size<=C):Un fs ex H H' h h2:=by
 have ne: ∀ b o,h.get? b=some o->b≠C:=fun b o e z=>by
  subst z
  exact absurd (bg (ah e) hC) (Nat.lt_irrefl _)
 refine⟨fun b o e n hb hx=> ?_,fun b o e n hb hx=> ?_,u.free,fun b o e hx=> ?_,u.tups,u.frzs,u.tbls⟩
 ·exact(sb.2 b (ne b o e)).trans (u.keep b o e n hb hx)
 ·obtain⟨sl,z⟩:=u.slot b o e n hb hx
  exact⟨sl,(sb.2 b (ne b o e)).trans z⟩
 ·obtain⟨o',z⟩:=u.there b o e hx
  exact⟨o',(sb.2 b (ne b o e)).trans z⟩
theorem yE {fpO: ∀ b∈fp,nR X pins H3 b} {h4:Heap} {m:Str->Option Value} {t':Nat} (I:Inv X pins σ H3 s3) (hk:sc.kind= .function) (hc:Cel sc)
  (hfree: ∀ x,(x,NameKind.free)∈sc.names->X.env.kindOf x=some .cell\/X.env.kindOf x=some .free) (hnd: ∀ x,(x,NameKind.free)∈sc.names->sc.names.lookup x=some .free)
  (hfo: ∀ b∈fp,b<s3.heap.objs.size) (hns:h4.Ns s3.heap.objs.size m) (hkeep: ∀ b o,s3.heap.get? b=some o->h4.get? b=some o) (hnew: ∀ x,mD sc=[x]->h4.IsCell (s3.heap.objs.size+1) none)
  {σc:St} (hl:σc.length=N'.length) (hσ: ∀ (i:Nat) (x:Str) (v:V),N'[i]? =some x->σc[i]? =some (some v)-> ∃ j:Nat,X.N[j]? =some x/\σ[j]? =some (some v)/\(x,NameKind.free)∈sc.names):
  Inv (cX X N' sc s3 H3 fp pins) [] σc H3 { s3 with heap:=h4,toks:=t' }:=by
 have hcl: ∀ x c,(iT X.env.cells sc.names []).lookup x=some c->(x,NameKind.free)∈sc.names/\X.env.cells.lookup x=some c:=fun x c e=>by
  rcases hU e with ⟨k,h1,h2,h3⟩ | h
  ·subst h2
   refine⟨h1, ?_⟩
   obtain⟨c',hc'⟩:=I.ok.has x (hfree x h1)
   rw [hc'] at h3
   rw [h3]
   exact hc'
  ·cases h
 have hlt: ∀ x c,(iT X.env.cells sc.names []).lookup x=some c->c<s3.heap.objs.size:=fun x c e=>by
  obtain⟨v,o,ho,_⟩:=I.cell x c (hcl x c e).2
  exact ah ho
 have stk: ∀ b,b∈frs X.stack->b=X.env.locals\/b∈X.fs:=fun b hb=>au.mp (I.stkSub b hb)
 refine⟨⟨I.ok.mod,hk,I.ok.glob,I.ok.blt,aj _,fun x y c h1 h2=> ?_,fun x hx=> ?_,fun x c h1 h2=> ?_,I.ok.hd,I.ok.frames, .inl rfl,fun b hb=> ?_,I.bs,Nat.le_trans I.ok.bsz I.sz,fun b o e hb=> ?_,fun b hb hb'=> ?_,I.stack,I.stkFree⟩,
  rfl,I.bare,Un.kept hkeep,⟨m,hns,fun i x v h1 h2 h3=> ?_⟩,fun x c h=> ?_,I.hok.fresh (aj _),fun x c h=> ?_,fun q hq=> ?_,I.hok.kept hkeep,hl⟩
 ·rcases d8 hc h1 with ⟨e1,z1⟩ | z1
  ·rcases d8 hc h2 with ⟨e2,z2⟩ | z2
   ·rw [e1] at e2
    exact(List.cons.inj e2).1
   ·have:=hlt y c z2
    rw [z1] at this
    exact absurd this (Nat.not_lt.mpr (Nat.le_succ _))
  ·rcases d8 hc h2 with ⟨e2,z2⟩ | z2
   ·have:=hlt x c z1
    rw [z2] at this
    exact absurd this (Nat.not_lt.mpr (Nat.le_succ _))
   ·exact I.ok.inj x y c (hcl x c z1).2 (hcl y c z2).2
 ·-- a name that is a cell here was free in the scope
  have e:(sc.names.lookup x).map (fun k=>if(k==NameKind.free&&X.env.scope.kind== .function&&X.env.kindOf x==some .cell) then NameKind.cell else k)=some .cell\/(sc.names.lookup x).map (fun k=>if(k==NameKind.free&&X.env.scope.kind== .function&&X.env.kindOf x==some .cell) then NameKind.cell else k)=some .free:=by
   rw [<-bH]
   exact hx
  cases q:sc.names.lookup x with
  | none=>rw [q] at e;rcases e with e | e<;>cases e
  | some k=>
   have hm:=PySem.mem_of_lookup q
   by_cases hkk:k= .free
   ·subst hkk
    obtain⟨c,hc'⟩:=Option.isSome_iff_exists.mp (hV (cells:=X.env.cells) (acc:=[]) hm)
    exact⟨c,pZ hc q hc'⟩
   ·have hkf:(k==NameKind.free)=false:=by simpa using hkk
    rw [q] at e
    simp only [Option.map,hkf,Bool.false_and] at e
    rcases e with e | e
    ·have hkc:k= .cell:=by simpa using e
     subst hkc
     have hmem:x∈mD sc:=aq.mpr ⟨(x, .cell),List.mem_filter.mpr ⟨hm,by simp⟩,rfl⟩
     have hx1:mD sc=[x]:=by
      rcases hc with z | ⟨y,z,_⟩
      ·rw [z] at hmem;cases hmem
      ·rw [z] at hmem ⊢
       rw [List.mem_singleton.mp hmem]
     exact⟨_,uH hx1⟩
    ·exact absurd (by simpa using e) hkk
 ·have hx1:mD sc=[x]:=of_decide_eq_true h1
  have:=h2.symm.trans (uH hx1)
  cases this
  exact Nat.le_succ _
 ·obtain⟨f0,f1,f2,f3,f4,f5⟩:=fpO b hb
  refine⟨bh (hfo b hb),fun x c h=> ?_⟩
  rcases d8 hc h with ⟨_,z⟩ | z
  ·rw [z];exact(bh (Nat.lt_succ_of_lt (hfo b hb))).symm
  ·exact f4 x c (hcl x c z).2
 ·obtain⟨f0,f1,f2,f3,f4,f5⟩:=fpO b hb
  rcases f3 with z | z
  ·exact I.ok.noex b o e z
  ·exact absurd (bg (ah e) (Nat.le_trans I.ok.bsz z)) (Nat.lt_irrefl _)
 ·obtain⟨f0,f1,f2,f3,f4,f5⟩:=fpO b hb
  rcases stk b hb' with z | z
  ·exact f1 z
  ·exact f2 z
 ·obtain⟨j,j1,j2,j3⟩:=hσ i x v h1 h2
  obtain⟨m0,hn0,hl0⟩:=I.loc
  have hkx:=hfree x j3
  have vis:Vis X.env.scope x:=by
   rcases hkx with z | z
   ·exact .inr (.inl z)
   ·exact .inr (.inr z)
  obtain⟨u,r,l⟩:=hl0 j x v j1 j2 vis
  refine⟨u,r, .inr ?_⟩
  rcases l with ⟨z,_⟩ | ⟨_,c,hcc,hcell'⟩
  ·rcases hkx with z' | z'
   ·have:X.env.kindOf x=some .local:=z
    rw [z'] at this;cases this
   ·have:X.env.kindOf x=some .local:=z
    rw [z'] at this;cases this
  ·refine⟨?_,c, ?_, ?_⟩
   ·have e1:(relabel sc X.env).names.lookup x=(sc.names.lookup x).map (fun k=>if(k==NameKind.free&&X.env.scope.kind== .function&&X.env.kindOf x==some .cell) then NameKind.cell else k):=bH
    have e2:(relabel sc X.env).names.lookup x=some .cell\/(relabel sc X.env).names.lookup x=some .free:=by
     rw [e1,hnd x j3]
     simp only [Option.map]
     split
     ·exact .inl rfl
     ·exact .inr rfl
    exact e2
   ·obtain⟨c',hc'⟩:=Option.isSome_iff_exists.mp (hV (cells:=X.env.cells) (acc:=[]) j3)
    have:=(hcl x c' hc').2
    rw [hcc] at this
    cases this
    exact pZ hc (hnd x j3) hc'
   ·obtain⟨o,ho,hd⟩:=hcell'
    exact⟨o,hkeep _ _ ho,hd⟩
 ·rcases d8 hc h with ⟨e,z⟩ | z
  ·rw [z];exact⟨none,hnew x e⟩
  ·obtain⟨v,o,ho,hd⟩:=I.cell x c (hcl x c z).2
   exact⟨v,o,hkeep _ _ ho,hd⟩
 ·rcases d8 hc h with ⟨e,z⟩ | z
  ·rw [z];exact I.hok.fresh (Nat.le_succ _)
  ·exact I.freeC x c (hcl x c z).2
 ·have hq':q∈X.pn++pins:=by
   have h2:q∈(X.pn++pins)++[]:=hq
   rwa [List.append_nil] at h2
  obtain⟨e,n,ne,nf,d⟩:=I.pin q hq'
  refine⟨hkeep _ _ e,n,bh (ah e),fun z=> ?_,d⟩
  rcases stk _ z with z | z
  ·exact ne z
  ·exact nf z
theorem aA7 {fpO: ∀ b∈fp,nR X pins H3 b} {σc:St} {H':Hp} {s':Shared} {h':Heap} {pn':List (Addr×Obj)} (I:Inv X pins σ H3 s3) (J:Inv (cX X N' sc s3 H3 fp pins) pn' σc H' s') (sb:Heap.SameBut s3.heap.objs.size s'.heap h'):Inv X pins σ H' { s' with heap:=h' }:=by
 have hfree:H' s3.heap.objs.size=none:=J.free
 refine I.call' (ch:=fp) (s':={ s' with heap:=h' }) J.os (Un.sameBut J.base sb (aj _)) (fun b u e=> ?_) J.bare fun b hb=> ?_
 ·refine(J.hok b u e).stay (fun c v hc q=> ?_) (fun _ q=>q) fun _ _ q=>q
  have ne:c≠s3.heap.objs.size:=by
   rintro rfl
   rcases hc with z | z
   ·rw [<-z] at e;rw [hfree] at e;cases e
   ·rw [hfree] at z;cases z
  exact(sb.2 c ne).trans q
 ·obtain⟨f0,f1,f2,f3,f4,f5⟩:=fpO b hb
  exact⟨f3,f1,f4,f5⟩
theorem oH {prog:Program} {w:World} {A:Around} {Rr:Result->Shared->Prop} {s:Shared} {elt target iter:Expr} {ifs:List Expr} {scope:Scope} {pos:Pos} {it acc:Value} {env:PySem.Env} (Iv:Nat->Shared->Prop)
  (turn: ∀ n s,Iv n s->wpAny (model prog w) A (pyNext it) (fun r s₁=>match r with
   | none=>Rr (.ok .next) s₁
   | some v=>wpAny (model prog w) A (letOwnedTupleGo target it v) (fun _ s₁'=>wpAny (model prog w) A (assign target env v) (fun _ s₂=>
     wpAny (model prog w) A (forIn ifs true fun c r=>if r=true then do let ok<-isTrue c env (eval c env);pure (ForInStep.yield ok) else pure (ForInStep.yield r)) (fun ok s₃=>
      if ok=true then wpAny (model prog w) A (eval elt env) (fun x s₄=>
       wpAny (model prog w) A (call (.builtin "list.append") [acc,x]) (fun _ s₅=> ∃ m,m<n/\Iv m s₅) (fun _ _=>False) s₄) (fun _ _=>False) s₃
      else ∃ m,m<n/\Iv m s₃) (fun _ _=>False) s₂) (fun _ _=>False) s₁') (fun _ _=>False) s₁) (fun _ _=>False) s)
  (n:Nat) (h:Iv n s):
  codeAny (model prog w) A (.compLoop (.ListComp elt [⟨target,iter,ifs,0⟩] scope pos) 0 it acc env) Rr s:=by
 refine codeAny_loop rfl Iv (fun n s hI=> ?_) n h
 show wpAny _ A ((compTurn (.ListComp elt [⟨target,iter,ifs,0⟩] scope pos) 0 it acc env).onRaise (fun x=>do noteFrame x env;theTreesLotGoes x)) _ _ s
 refine wpAny_noted (wpAny_noRaise ?_)
 rw [compTurn_list]
 refine aa (wpAny_standAt (aa (wpAny_mono (turn n s hI) (fun r s₁ h₁=> ?_) fun _ _ h'=>h')))
 cases r with
 | none=>exact ae h₁
 | some v=>
  refine aa (wpAny_mono h₁ (fun _ s₁' h₁'=> ?_) fun _ _ h'=>h')
  refine aa (wpAny_mono h₁' (fun _ s₂ h₂=>aa (wpAny_mono h₂ (fun ok s₃ h₃=> ?_) fun _ _ h'=>h')) fun _ _ h'=>h')
  cases ok with
  | false=>exact ae ⟨rfl,h₃⟩
  | true=>
   exact aa (aa (wpAny_mono h₃ (fun x s₄ h₄=>aa (wpAny_mono h₄ (fun _ s₅ h₅=>ae (ae ⟨rfl,h₅⟩)) fun _ _ h'=>h')) fun _ _ h'=>h'))
theorem iV {f:D->Option (Option D)} {d:D} {r all:List D} (h:bT f (d::r)=some all):(f d=some none/\bT f r=some all)\/ ∃ x all',f d=some (some x)/\bT f r=some all'/\all=x::all':=by
 unfold bT at h
 cases e:f d with
 | none=>rw [e] at h;cases h
 | some o=>
  rw [e] at h
  cases o with
  | none=>exact .inl ⟨rfl,h⟩
  | some x=>
   obtain⟨a,h1,h2⟩:=zMd h
   exact .inr ⟨x,a,rfl,h1,h2.symm⟩
theorem uI {K:PySem.W.Frag} {G H:Hp} {ts cs:List Slot} {σ:St} (h:SL K ad G H (ts++cs) σ):SL K ad G H (ak ts.length .no++cs) σ:=by
 refine⟨by rw [<-h.len];simp,fun i sl e=> ?_⟩
 by_cases hi:i<ts.length
 ·rw [bx (by simpa using hi),List.getElem?_replicate,if_pos hi] at e
  cases e
  have hl:i<σ.length:=by rw [<-h.len,bo];omega
  exact⟨σ[i],by simp [hl],trivial⟩
 ·rw [bn (by simpa using hi),List.length_replicate] at e
  refine h.at_ i sl ?_
  rw [bn (by omega)]
  exact e
theorem aA8 {K:PySem.W.Frag} {G H:Hp} {n:Nat} {cs:List Slot} {σ:St} {ds:List D} {vs:List V} (h:SL K ad G H (ak n .no++cs) σ) (r:aF K ad G ds vs) (hn:ds.length=n):SL K ad G H (ds.map Slot.sh++cs) (fE 0 vs σ):=by
 have hv:=r.length
 have hl:=h.len
 rw [bo,List.length_replicate] at hl
 refine⟨by rw [d7,bo,ao];omega,fun i sl e=> ?_⟩
 by_cases hi:i<n
 ·rw [bx (by rw [ao];omega),List.getElem?_map] at e
  cases e1:ds[i]? with
  | none=>rw [e1] at e;cases e
  | some d=>
   rw [e1] at e
   cases e
   obtain⟨v,e2,r2⟩:=r.get e1
   refine⟨some v, ?_,v,rfl,r2⟩
   have:=mK (j:=0) (σ:=σ) e2 (by omega)
   rwa [Nat.zero_add] at this
 ·rw [bn (by rw [ao];omega),ao,hn] at e
  obtain⟨ov,h1,h2⟩:=h.at_ i sl (by rw [bn (by rw [List.length_replicate];omega),List.length_replicate];exact e)
  exact⟨ov,by rw [iU (.inl (by omega))];exact h1,h2⟩
theorem aIn {K:PySem.W.Frag} {k:Nat} {d:D} {v:V} {ts cs:List Slot} {n:Nat} {σ:St} {G H Hs:Hp} {W:St->Hp->Prop} (e:tgt k d=some ts) (hn:n=if k=0 then 1 else k) (hG:Same G H) (r:Rep K ad G d v)
  (h:SL K ad G Hs (ak n .no++cs) σ) (q: ∀ σ',σ'.length=σ.length->SL K ad G Hs (ts++cs) σ'->W σ' H):ts.length=n/\gTg K k v σ H W:=by
 cases k with
 | zero=>
  cases e
  subst hn
  refine⟨rfl,q _ (by rw [List.length_set]) ?_⟩
  have:=aA8 (ds:=[d]) (vs:=[v]) h (aF.cons r aF.nil) rfl
  exact this
 | succ k=>
  unfold tgt at e
  cases d<;>try (cases e)
  rename_i ds
  simp only at e
  by_cases hl:ds.length=k+1
  ·rw [if_pos hl] at e
   cases e
   rw [if_neg (by omega)] at hn
   subst hn
   unfold Rep at r
   obtain⟨a,vs,rfl,hq,rq⟩:=r
   refine⟨by rw [ao];exact hl,a,vs,rfl,hG.seqT hq,by rw [rq.length];exact hl, ?_⟩
   have hvl:vs.length=k+1:=by rw [rq.length];exact hl
   have:=uG (vs:=vs) (j:=0) (σ:=σ) (H:=H) (Q:=W) (q _ d7 (aA8 h rq hl))
   rwa [hvl] at this
  ·rw [if_neg hl] at e
   cases e
end
section
variable {X:Cx} {ad:Ad} {pins:List (Addr×Obj)} {s s2 s3:Shared} {σ:St} {H H2 H3 G G2:Hp} {ρ:Rho} {Q:VK} {E:Nat->Hp->Prop} {pos:Pos} {sc:Scope} {N':List Str} {fp:List Addr}
 {tg it elt:Expr} {ifs:List Expr} {k nt:Nat} {xs:List Str} {cs:List Slot} {fc:Option F} {fe:F}
theorem eN {x:Str}: ∀ {N:List Str} {i:Nat},idx x N=some i->N[i]? =some x
 | [],_,e=>by cases e
 | y::r,i,e=>by
  unfold idx at e
  by_cases h:x=y
  ·rw [if_pos h] at e
   cases e
   subst h
   rfl
  ·rw [if_neg h] at e
   obtain⟨j,e1,e2⟩:=zMd e
   subst e2
   simpa using eN e1
def MTs (X:Cx) (ad:Ad) (ifs:List Expr) (fc:Option F):Prop:=match ifs,fc with
 | [],none=>True
 | [c],some f=>MT X ad c f
 | _,_=>False
theorem ME.val {a:Expr} {f:F} {x:SK.D} (ha:ME X ad a f) (I:Inv X pins σ H s) (hG:Same G H) (hS:SL X.K ad G H ρ σ) (hx:XP X ad σ E) (hf:f ρ= .ok x\/ ∃ l,f ρ= .ow l/\x= .lst l):
  wpAny (model X.prog X.w) X.A (eval a X.env) (fun u s1=> ∃ v G1 H1,Inv X pins σ H1 s1/\aP v u/\Step G H G1 H1/\Rep X.K ad G1 x v) X.xe s:=by
 rcases hf with e | ⟨l,e,rfl⟩
 ·exact L2.thn (ha pins s σ H (fun v H1=> ∃ G1,Step G H G1 H1/\Rep X.K ad G1 x v) I ⟨G,ρ,E,hG,hS,hx,by rw [e];exact fun v G1 H1 st q=>⟨G1,st,q⟩⟩) fun u s1 ⟨v,H1,I1,r1,G1,st,q⟩=>⟨v,G1,H1,I1,r1,st,q⟩
 ·exact L2.thn (ha pins s σ H (fun v H1=> ∃ G1,Step G H G1 H1/\Rep X.K ad G1 (.lst l) v) I ⟨G,ρ,E,hG,hS,hx,by rw [e];exact fun p vs G1 H1 st n m e' q=>bF st n m e' q⟩) fun u s1 ⟨v,H1,I1,r1,G1,st,q⟩=>⟨v,G1,H1,I1,r1,st,q⟩
theorem MT.val {a:Expr} {f:F} {k:Bool} (ha:MT X ad a f) (I:Inv X pins σ H s) (hG:Same G H) (hS:SL X.K ad G H ρ σ) (hx:XP X ad σ E) (hf:f ρ= .ok (.bl k)):
  wpAny (model X.prog X.w) X.A (isTrue a X.env (eval a X.env)) (fun b s1=>b=k/\ ∃ G1 H1,Inv X pins σ H1 s1/\Step G H G1 H1) X.xe s:=by
 exact L2.thn (ha pins s σ H (fun b H1=>b=k/\ ∃ G1,Step G H G1 H1) I ⟨G,ρ,E,hG,hS,hx, .inl ⟨k,hf⟩,by rw [hf];exact fun v G1 H1 st q=>⟨k,by unfold Rep at q;exact q,rfl,G1,st⟩⟩) fun b s1 ⟨H1,I1,e,G1,st⟩=>⟨e,G1,H1,I1,st⟩
theorem cR {G1 H1 G2 H2:Hp} {D:Addr} {vs:List V} (st:Step G1 H1 G2 H2) (g:G1 D=none) (h:H1 D=some (.lst vs)):G2 D=none/\H2 D=some (.lst vs):=by
 refine⟨?_,st.sh _ _ h⟩
 cases z:G2 D with
 | none=>rfl
 | some o=>
  have:=st.nw D g (by rw [z];exact fun z=>nomatch z)
  rw [h] at this
  cases this
theorem mM {G1 H1 G2 H2:Hp} {D:Addr} {o:HO} (st:Step G1 H1 G2 H2) (n:H1 D=none) (g:G2 D=none):Step G1 H1 G2 (upd H2 D o):=by
 refine⟨st.sg,fun b u e=> ?_,fun b u e=> ?_,st.nw⟩
 ·have ne:b≠D:=fun z=>by subst z;rw [g] at e;cases e
  rw [aA ne]
  exact st.gh b u e
 ·have ne:b≠D:=fun z=>by subst z;rw [n] at e;cases e
  rw [aA ne]
  exact st.sh b u e
noncomputable def hid (D:Addr) (H:Hp):Hp:=fun b=>if b=D then none else H b
theorem iW {D b:Addr} {H:Hp} (h:b≠D):hid D H b=H b:=by unfold hid;rw [if_neg h]
theorem eU {D:Addr} {H:Hp}:hid D H D=none:=by unfold hid;rw [if_pos rfl]
theorem uJ {D:Addr} {H:Hp}:Same (hid D H) H:=fun b o e=>by
 by_cases z:b=D
 ·subst z;rw [eU] at e;cases e
 ·rwa [iW z] at e
theorem uK {D:Addr} {H:Hp} {o:HO}:hid D (upd H D o)=hid D H:=by
 funext b
 by_cases z:b=D
 ·subst z;rw [eU,eU]
 ·rw [iW z,iW z,aA z]
theorem aIo {D:Addr} {H:Hp} (h:H D=none):hid D H=H:=by
 funext b
 by_cases z:b=D
 ·subst z;rw [eU,h]
 ·rw [iW z]
theorem hW {G1 H1 G2 H2:Hp} {D:Addr} (st:Step G1 H1 G2 H2) (g:G2 D=none):Step G1 (hid D H1) G2 (hid D H2):=by
 refine⟨st.sg,fun b u e=> ?_,fun b u e=> ?_,fun b h1 h2=> ?_⟩
 ·have ne:b≠D:=fun z=>by subst z;rw [g] at e;cases e
  rw [iW ne]
  exact st.gh b u e
 ·have ne:b≠D:=fun z=>by subst z;rw [eU] at e;cases e
  rw [iW ne] at e ⊢
  exact st.sh b u e
 ·by_cases z:b=D
  ·subst z;exact eU
  ·rw [iW z];exact st.nw b h1 h2
theorem SL.up {K:PySem.W.Frag} {G H H':Hp} {ρ:Rho} {σ:St} (h:SL K ad G H ρ σ) (s:Same H H'):SL K ad G H' ρ σ:=by
 refine⟨h.len,fun i sl e=> ?_⟩
 obtain⟨ov,h1,h2⟩:=h.at_ i sl e
 refine⟨ov,h1, ?_⟩
 cases sl with
 | no=>trivial
 | sh d=>exact h2
 | ow xs=>
  obtain⟨a,vs,e1,e2,e3,e4⟩:=h2
  exact⟨a,vs,e1,e2,s _ _ e3,e4⟩
 | dc kvs=>
  obtain⟨a,es,e1,e2,e3,e4⟩:=h2
  exact⟨a,es,e1,e2,s _ _ e3,e4⟩
 | sd kvs=>
  obtain⟨a,es,e1,e2,e3,e4⟩:=h2
  exact⟨a,es,e1,e2,s _ _ e3,e4⟩
 | rk C r=>
  obtain⟨p,dx,d,l1,l2,e1,e2⟩:=h2
  exact⟨p,dx,d,l1,l2,e1,e2.up s⟩
theorem yF {M:Model} {A:Around} {Ex:Value->Shared->Prop} {s:Shared} {sc:Scope} {gl:Addr} {cl:List (Str×Addr)} {q:Str} {o:PySem.Env} {Q:PySem.Env->Shared->Prop} (hc:Cel sc)
  (h: ∀ h4:Heap,h4.Ns s.heap.objs.size (fun _=>none)->(∀ b ob,s.heap.get? b=some ob->h4.get? b=some ob)->(∀ x,mD sc=[x]->h4.IsCell (s.heap.objs.size+1) none)->
   Q (newEnv sc s.heap.objs.size gl (cellsFrom (s.heap.objs.size+1) sc.names cl) q none .none (some o) builtinsNs) { s with heap:=h4 }):
  wpAny M A (newFunctionEnv sc gl cl [] q none .none (some o)) Q Ex s:=by
 simp only [newFunctionEnv,Option.isSome_some,if_true]
 refine aa (wpAny_alloc ?_)
 refine aa (wpAny_layCells _ (fun name kind cells=>by cases hkc:kind==NameKind.cell<;>simp [hkc]) _ _ _ _ ?_)
 have hns:(s.heap.push { cls:= .type "dict",data:= .dict #[] }).Ns s.heap.objs.size (fun _=>none):=Heap.Ns.new s.heap (.type "dict")
 have hkp: ∀ b ob,s.heap.get? b=some ob->(pushCells (s.heap.push { cls:= .type "dict",data:= .dict #[] }) sc.names).get? b=some ob:=fun b ob e=>pushCells_keeps _ _ b ob (af _ e)
 have hz:(s.heap.push { cls:= .type "dict",data:= .dict #[] }:Heap).objs.size=s.heap.objs.size+1:=ai ..
 rw [List.forIn_nil]
 refine aa (ae (ae ?_))
 have:=h _ (hns.keeps (pushCells_keeps _ _)) hkp fun x e=>by
  rw [(cf1 (a:=0) (acc:=[]) e).2]
  refine⟨{ cls:= .type "cell",data:= .cell none }, ?_,rfl⟩
  rw [<-hz]
  exact ag _ rfl
 rw [<-hz] at this
 exact this
theorem mO {J:It} {ds all:List D} {itA:Addr} {tn:Nat->Heap->Prop} {RR:Value->Addr->Result->Shared->Prop} {Ex:Value->Shared->Prop} (hc:X.calm=true) (I2:Inv X pins σ H2 s2) (T:Turn X.prog X.w X.K tg J fp itA tn) (st2:tn 0 s2.heap)
  (f2: ∀ b∈fp,nR X pins H2 b) (hit:ItH X ad J G2 H2 ds) (hgo:bT (eI k cs fc fe) ds=some all) (hG2:Same G2 H2)
  (hk:sc.kind= .function) (hC:Cel sc)
  (hfree: ∀ x,(x,NameKind.free)∈sc.names->X.env.kindOf x=some .cell\/X.env.kindOf x=some .free) (hnd: ∀ x,(x,NameKind.free)∈sc.names->sc.names.lookup x=some .free)
  {σc:St} (hl:σc.length=N'.length) (hσ: ∀ (i:Nat) (x:Str) (v:V),N'[i]? =some x->σc[i]? =some (some v)-> ∃ j:Nat,X.N[j]? =some x/\σ[j]? =some (some v)/\(x,NameKind.free)∈sc.names)
  (hnt:nt=if k=0 then 1 else k) (hsl:SL X.K ad G2 H2 (ak nt .no++cs) σc)
  (hg: ∀ s3 H3 pins',PG (cX X N' sc s3 H3 fp pins') tg (gTg X.K k)) (hts: ∀ s3 H3 pins',MTs (cX X N' sc s3 H3 fp pins') ad ifs fc) (he: ∀ s3 H3 pins',ME (cX X N' sc s3 H3 fp pins') ad elt fe)
  (hEnd: ∀ (s3 s':Shared) (H3 H' G':Hp) (σ':St) (D:Addr) (vs:List V),Inv X pins σ H3 s3->(∀ b∈fp,nR X pins H3 b)->Inv (cX X N' sc s3 H3 fp pins) [] σ' H' s'->Step G2 H2 G' H'->H2 D=none->G' D=none->H' D=some (.lst vs)->aF X.K ad G' all vs->RR (.ref D) s3.heap.objs.size (.ok .next) s'):
  wpAny (model X.prog X.w) X.A (newList []) (fun acc s₃=>wpAny (model X.prog X.w) X.A (newFunctionEnv sc X.env.globals (iT X.env.cells sc.names []) [] X.env.qual none .none (some X.env)) (fun cenv s₄=>
   codeAny (model X.prog X.w) X.A (.compStart (.ListComp elt [⟨tg,it,ifs,0⟩] sc pos) 0 (.ref itA) acc { cenv with scope:=relabel sc X.env }) (RR acc cenv.locals) s₄) Ex s₃) Ex s2:=by
 refine wpAny_newObj_type ?_
 have hD:H2 s2.heap.objs.size=none:=I2.fresh
 have I3:Inv X pins σ (upd H2 s2.heap.objs.size (.lst [])) { s2 with heap:=s2.heap.push { cls:= .type "list",data:= .seq ([]:List Value).toArray } }:=I2.lnew (t':=s2.toks) .nil (bu _)
 generalize e3:({ s2 with heap:=s2.heap.push { cls:= .type "list",data:= .seq ([]:List Value).toArray } }:Shared)=s3 at I3
 have hsz:s3.heap.objs.size=s2.heap.objs.size+1:=by rw [<-e3];exact ai ..
 have hk3: ∀ b o,s2.heap.get? b=some o->s3.heap.get? b=some o:=fun b o e=>by rw [<-e3];exact af _ e
 generalize eD:s2.heap.objs.size=D at hD I3 hsz ⊢
 generalize eH:upd H2 D (.lst [])=H3 at I3
 have hH3D:H3 D=some (.lst []):=by rw [<-eH];exact aE
 have hstep3:Step G2 H2 G2 H3:=by rw [<-eH];exact Step.own hG2 hD
 have hfo: ∀ b∈fp,b<D:=fun b hb=>by
  obtain⟨o,e,_⟩:=T.obj 0 _ st2 b hb
  rw [<-eD]
  exact ah e
 have f3: ∀ b∈fp,nR X pins H3 b:=fun b hb=>by
  obtain⟨f0,fr⟩:=f2 b hb
  refine⟨?_,fr⟩
  rw [<-eH,aA (bh (hfo b hb))]
  exact f0
 refine yF hC fun h4 hns hkeep4 hnew4=> ?_
 have I4:Inv (cX X N' sc s3 H3 fp pins) [] σc H3 { s3 with heap:=h4 }:=
  yE (t':=s3.toks) (fpO:=f3) I3 hk hC hfree hnd (fun b hb=>bg (hfo b hb) (by rw [hsz];exact Nat.le_succ _)) hns hkeep4 hnew4 hl hσ
 have st4:tn 0 h4:=T.keep _ _ _ st2 fun b hb o e=>hkeep4 b o (hk3 b o e)
 have few:=hit.few
 -- what holds of the iterator's objects in the block
 have stat: ∀ {H':Hp},(∀ b∈fp,H' b=none)-> ∀ b∈fp,nR (cX X N' sc s3 H3 fp pins) [] H' b:=fun {H'} hn b hb=>by
  obtain⟨f0,f1,f2',f3',f4,f5⟩:=f3 b hb
  refine⟨hn b hb, ?_,fun z=> ?_, .inl hb,fun x c h=> ?_,fun q hq=> ?_⟩
  ·have hle:D<=s3.heap.objs.size:=by rw [hsz];exact Nat.le_succ _
   exact bh (bg (hfo b hb) hle)
  ·rcases au.mp (I3.stkSub b z) with z | z
   ·exact f1 z
   ·exact f2' z
  ·rcases d8 hC h with ⟨_,z⟩ | h'
   ·have hle:D<=s3.heap.objs.size:=by rw [hsz];exact Nat.le_succ _
    rw [z]
    exact(bh (Nat.lt_succ_of_lt (bg (hfo b hb) hle))).symm
   rcases hU h' with ⟨kk,h1,h2,h3⟩ | h
   ·subst h2
    obtain⟨c',hc'⟩:=I3.ok.has x (hfree x h1)
    rw [hc'] at h3
    have e:c=c':=h3
    rw [e]
    exact f4 x c' hc'
   ·cases h
  ·have h2:q∈(X.pn++pins)++[]:=hq
   rw [List.append_nil] at h2
   exact f5 q h2
 have loop: ∀ s4:Shared,s4={ s3 with heap:=h4 }->
   codeAny (model X.prog X.w) X.A (.compLoop (.ListComp elt [⟨tg,it,ifs,0⟩] sc pos) 0 (.ref itA) (.ref D) (cX X N' sc s3 H3 fp pins).env) (RR (.ref D) s3.heap.objs.size) s4:=by
  rintro s4 rfl
  obtain⟨Iv,hIv⟩: ∃ Iv:Nat->Shared->Prop, ∀ n s',Iv n s'↔ ∃ (i:Nat) (σ':St) (H' G':Hp) (ys cI:List SK.D) (vs:List V),Inv (cX X N' sc s3 H3 fp pins) [] σ' H' s'/\tn i s'.heap/\(∀ b∈fp,H' b=none)/\Step G2 H2 G' H'/\G' D=none/\H' D=some (.lst vs)/\aF X.K ad G' ys vs/\
   bT (eI k cs fc fe) (ds.drop i)=some cI/\ys++cI=all/\i<=ds.length/\n=ds.length - i/\ys.length<=i/\SL X.K ad G' (hid D H') (ak nt .no++cs) σ':=⟨_,fun _ _=>Iff.rfl⟩
  refine oH Iv ?_ ds.length
   ((hIv _ _).mpr ⟨0,σc,H3,G2,[],all,[],I4,st4,fun b hb=>(f3 b hb).1,hstep3,mG hG2 hD,hH3D,aF.nil,hgo,rfl,bu _,rfl,aj _,by rw [<-eH,uK,aIo hD];exact hsl⟩)
  intro n s5 hI5
  obtain⟨i,σ5,H5,G5,ys,cI,vs,I5,st5,fr5,sp5,gD5,hD5,r5,go5,eq5,hi5,rfl,hy5,sl5⟩:=(hIv _ _).mp hI5
  by_cases hlt:i<ds.length
  ·-- a turn
   have ed:ds[i]? =some ds[i]:=by simp [hlt]
   generalize ds[i]=d at ed
   have edrop:ds.drop i=d::ds.drop (i+1):=by
    rw [List.drop_eq_getElem_cons hlt]
    congr 1
    have:=ax.mp ed
    exact this.2
   rw [edrop] at go5
   obtain⟨go,yl⟩:=hit.go i G5 H5 d sp5 ed
   refine L2.thn (T.item (cX X N' sc s3 H3 fp pins) rfl rfl rfl hc i [] s5 σ5 H5 (fun _ _=>False) I5 (stat fr5) st5 go) fun r s6 hz_=> ?_
   obtain⟨u,hr,h6⟩:=hz_
   subst hr
   refine L2.thn h6 fun _ s7 hz_=> ?_
   obtain⟨x,H7,I7,r7,y7,st7,fr7⟩:=hz_
   obtain⟨G7,sp7,rx7⟩:=yl x H7 y7
   have I7':=I7.pinned (stat fr7) (T.obj _ _ st7)
   obtain⟨gD7,hD7⟩:=cR sp7 gD5 hD5
   have sl7:=sl5.step (hW sp7 gD7)
   -- the target
   have hcomp: ∃ ts,tgt k d=some ts:=by
    cases z:tgt k d with
    | some ts=>exact⟨ts,rfl⟩
    | none=>
     exfalso
     rcases iV go5 with ⟨e,_⟩ | ⟨x',_,e,_,_⟩<;>(unfold eI at e;rw [z] at e;cases e)
   obtain⟨ts,ets⟩:=hcomp
   obtain⟨htl,gt⟩:=aIn (W:=fun σ' H'=>H'=H7/\SL X.K ad G7 (hid D H7) (ts++cs) σ') ets hnt sp7.gh rx7 sl7 (fun σ' _ q=>⟨rfl,q⟩)
   refine L2.thn (hg s3 H3 pins _ s7 σ5 H7 x u _ I7' r7 gt) fun _ s8 hz_=> ?_
   obtain⟨σ8,H8,I8,e8,sl8⟩:=hz_
   subst e8
   -- again, at the turn's end
   have again: ∀ {s9:Shared} {H9 G9:Hp} {ys9 rest9:List SK.D} {vs9:List V},Inv (cX X N' sc s3 H3 fp pins) ([]++jP fp s7.heap) σ8 H9 s9->Step G2 H2 G9 H9->G9 D=none->H9 D=some (.lst vs9)->aF X.K ad G9 ys9 vs9->bT (eI k cs fc fe) (ds.drop (i+1))=some rest9->ys9++rest9=all->ys9.length<=i+1->
     SL X.K ad G9 (hid D H9) (ts++cs) σ8-> ∃ m,m<ds.length - i/\Iv m s9:=by
    intro s9 H9 G9 ys9 rest9 vs9 I9 sp9 gD9 hD9 r9 go9 eq9 hy9 sl9
    refine⟨ds.length - (i+1),by omega,(hIv _ _).mpr ⟨i+1,σ8,H9,G9,ys9,rest9,vs9,I9.unpinned,T.keep _ _ _ st7 fun b hb o e=>(I9.pin (b,o) (bt _ (bt _ (eR hb e)))).1,fun b hb=> ?_,sp9,gD9,hD9,r9,go9,eq9,by omega,rfl,hy9, ?_⟩⟩
    ·obtain⟨o,e,d'⟩:=T.obj _ _ st7 b hb
     exact(I9.pin (b,o) (bt _ (bt _ (eR hb e)))).2.1
    ·have:=uI sl9
     rwa [htl] at this
   have xpF:XP (cX X N' sc s3 H3 fp pins) ad σ8 (fun _ _=>False):=yD rfl
   have sp8:Step G2 H2 G7 H8:=sp5.trans sp7
   -- the element
   have elem: ∀ {s9:Shared} {H9 G9:Hp} (x':SK.D) (all':List SK.D),Inv (cX X N' sc s3 H3 fp pins) ([]++jP fp s7.heap) σ8 H9 s9->Step G7 H8 G9 H9->(fe (ts++cs)= .ok x'\/ ∃ l,fe (ts++cs)= .ow l/\x'= .lst l)->bT (eI k cs fc fe) (ds.drop (i+1))=some all'->cI=x'::all'->
     wpAny (model X.prog X.w) X.A (eval elt (cX X N' sc s3 H3 fp pins).env) (fun x s₄=>wpAny (model X.prog X.w) X.A (call (.builtin "list.append") [.ref D,x]) (fun _ s₅=> ∃ m,m<ds.length - i/\Iv m s₅) (fun _ _=>False) s₄) (fun _ _=>False) s9:=by
    intro s9 H9 G9 x' all' I9 sp9 hf hgo' hrest
    obtain⟨gD9,hD9⟩:=cR sp9 gD7 hD7
    have sl9:=sl8.step (hW sp9 gD9)
    refine L2.thn (ME.val (X:=cX X N' sc s3 H3 fp pins) (he s3 H3 pins) I9 sp9.gh (sl9.up uJ) xpF hf) fun u10 s10 hz_=> ?_
    obtain⟨v10,G10,H10,I10,r10,sp10,q10⟩:=hz_
    obtain⟨gD10,hD10⟩:=cR sp10 gD9 hD9
    have hlen:vs.length<sizeLine:=by
     have:=r5.length
     omega
    refine L2.thn (fT (X:=cX X N' sc s3 H3 fp pins) _ s10 σ8 H10 (.ref D) [v10] (.ref D) [u10] (fun _ H'=>H'=upd H10 D (.lst (vs++[v10]))) I10 rfl (.cons r10 .nil) ⟨D,vs,v10,rfl,rfl,hD10,hlen,rfl⟩) fun _ s11 hz_=> ?_
    obtain⟨_,H11,I11,_,e11⟩:=hz_
    subst e11
    have spT:Step G2 H2 G10 H10:=(sp8.trans sp9).trans sp10
    have spA:Step G2 H2 G10 (upd H10 D (.lst (vs++[v10]))):=mM spT hD gD10
    have rA:aF X.K ad G10 (ys++[x']) (vs++[v10]):=((r5.mono sp7.sg).mono sp9.sg).mono sp10.sg |>.append (aF.cons q10 aF.nil)
    have slA:SL X.K ad G10 (hid D (upd H10 D (.lst (vs++[v10])))) (ts++cs) σ8:=by
     rw [uK]
     exact sl9.step (hW sp10 gD10)
    refine again I11 spA gD10 aE rA hgo' ?_ (by simp;omega) slA
    rw [List.append_assoc]
    rw [hrest] at eq5
    exact eq5
   rcases iV go5 with ⟨e,hgo'⟩ | ⟨x',all',e,hgo',hrest⟩
   ·-- left out
    unfold eI at e
    rw [ets] at e
    cases fc with
    | none=>
     exfalso
     simp only at e
     cases z:fe (ts++cs)<;>rw [z] at e<;>cases e
    | some f0=>
     simp only at e
     have hT:=hts s3 H3 pins
     match ifs,hT with
     | [c0],hT=>
      have hv:f0 (ts++cs)= .ok (.bl false):=by
       cases z:f0 (ts++cs) with
       | ok dd=>
        rw [z] at e
        cases dd<;>try (cases e)
        rename_i bb
        cases bb with
        | false=>rfl
        | true=>
         exfalso
         simp only at e
         cases z':fe (ts++cs)<;>rw [z'] at e<;>cases e
       | ow _=>rw [z] at e;cases e
       | ex _=>rw [z] at e;cases e
       | bad=>rw [z] at e;cases e
      refine wpAny_tests_one (L2.thn (MT.val (X:=cX X N' sc s3 H3 fp pins) hT I8 sp7.gh (sl8.up uJ) xpF hv) fun ok s9 hz_=> ?_)
      obtain⟨eb,G9,H9,I9,sp9⟩:=hz_
      subst eb
      obtain⟨gD9,hD9⟩:=cR sp9 gD7 hD7
      exact aCl (again I9 (sp8.trans sp9) gD9 hD9 ((r5.mono sp7.sg).mono sp9.sg) hgo' eq5 (by omega) (sl8.step (hW sp9 gD9)))
     | [],hT=>exact hT.elim
     | _::_::_,hT=>exact hT.elim
   ·-- taken
    unfold eI at e
    rw [ets] at e
    cases fc with
    | none=>
     have hT:=hts s3 H3 pins
     match ifs,hT with
     | [],_=>
      refine wpAny_tests_nil (aAw ?_)
      refine elem x' all' I8 (Step.refl sp7.gh) ?_ hgo' hrest
      simp only at e
      cases z:fe (ts++cs) with
      | ok dd=>rw [z] at e;cases e;exact .inl rfl
      | ow l=>rw [z] at e;cases e;exact .inr ⟨l,rfl,rfl⟩
      | ex _=>rw [z] at e;cases e
      | bad=>rw [z] at e;cases e
     | _::r1,hT=>cases r1<;>exact az hT
    | some f0=>
     simp only at e
     have hT:=hts s3 H3 pins
     match ifs,hT with
     | [c0],hT=>
      have hv:f0 (ts++cs)= .ok (.bl true)/\(fe (ts++cs)= .ok x'\/ ∃ l,fe (ts++cs)= .ow l/\x'= .lst l):=by
       cases z:f0 (ts++cs) with
       | ok dd=>
        rw [z] at e
        cases dd<;>try (cases e)
        rename_i bb
        cases bb with
        | false=>simp only at e;cases e
        | true=>
         simp only at e
         refine⟨rfl, ?_⟩
         cases z':fe (ts++cs) with
         | ok dd=>rw [z'] at e;cases e;exact .inl rfl
         | ow l=>rw [z'] at e;cases e;exact .inr ⟨l,rfl,rfl⟩
         | ex _=>rw [z'] at e;cases e
         | bad=>rw [z'] at e;cases e
       | ow _=>rw [z] at e;cases e
       | ex _=>rw [z] at e;cases e
       | bad=>rw [z] at e;cases e
      refine wpAny_tests_one (L2.thn (MT.val (X:=cX X N' sc s3 H3 fp pins) hT I8 sp7.gh (sl8.up uJ) xpF hv.1) fun ok s9 hz_=> ?_)
      obtain⟨eb,G9,H9,I9,sp9⟩:=hz_
      subst eb
      exact aAw (elem x' all' I9 sp9 hv.2 hgo' hrest)
     | [],hT=>exact hT.elim
     | _::_::_,hT=>exact hT.elim
  ·-- the end
   have ei:i=ds.length:=by omega
   subst ei
   rw [List.drop_length] at go5
   cases go5
   rw [List.append_nil] at eq5
   subst eq5
   refine L2.thn (T.done (cX X N' sc s3 H3 fp pins) rfl rfl rfl hc ds.length [] s5 σ5 H5 (fun _ _=>False) I5 (stat fr5) st5 (hit.stop G5 H5 sp5)) fun r s6 hz_=> ?_
   obtain⟨hr,I6⟩:=hz_
   subst hr
   exact hEnd s3 s6 H3 H5 G5 σ5 D vs I3 f3 I6 sp5 hD gD5 hD5 r5
 exact codeAny_compStart_list (loop _ rfl) (T.self _ 0 _ _ _ st4 (loop _ rfl))
theorem jY {C:Ctx} {cs:List Nat} {nt:Nat} (hxs:xs.length=nt) (hN:X.N=C.N) (hcs:dO (fun x=>dR C x) (aO sc)=some cs) (hfr: ∀ x∈aO sc,(x,NameKind.free)∈sc.names) (hS:SL X.K ad G H ρ σ) (hlen:σ.length=X.N.length):
  ∃ σc:St,σc.length=(xs++aO sc).length/\(∀ (i:Nat) (x:Str) (v:V),(xs++aO sc)[i]? =some x->σc[i]? =some (some v)-> ∃ j:Nat,X.N[j]? =some x/\σ[j]? =some (some v)/\(x,NameKind.free)∈sc.names)/\
   SL X.K ad G H (ak nt .no++pM cs ρ) σc:=by
 have key: ∀ (ys:List Str) (js:List Nat),dO (fun x=>dR C x) ys=some js->js.length=ys.length/\ ∀ (i:Nat) (y:Str),ys[i]? =some y-> ∃ j,js[i]? =some j/\C.N[j]? =some y:=by
  intro ys
  induction ys with
  | nil=>intro js e;cases e;exact⟨rfl,fun i y h=>by simp at h⟩
  | cons y r ih=>
   intro js e
   unfold dO at e
   cases e1:dR C y with
   | none=>rw [e1] at e;cases e
   | some j=>
    rw [e1] at e
    obtain⟨js',e2,e3⟩:=zMd e
    subst e3
    obtain⟨i1,i2⟩:=ih js' e2
    refine⟨by simp [i1],fun i z h=> ?_⟩
    cases i with
    | zero=>
     simp at h
     subst h
     refine⟨j,rfl, ?_⟩
     have hidx:idx y C.N=some j:=by
      unfold dR at e1
      split at e1
      ·exact e1
      ·exact e1
      ·cases e1
     exact eN hidx
    | succ i=>
     obtain⟨j',h1,h2⟩:=i2 i z (by simpa using h)
     exact⟨j',by simpa using h1,h2⟩
 obtain⟨k1,k2⟩:=key (aO sc) cs hcs
 refine⟨ak nt none++cs.map (fun j=>(σ[j]?).getD none),by simp [k1,hxs],fun i x v h1 h2=> ?_, ?_,fun i sl e=> ?_⟩
 ·by_cases hi:i<nt
  ·rw [bx (by simpa using hi),List.getElem?_replicate,if_pos hi] at h2
   cases h2
  ·rw [bn (by simpa using hi),List.length_replicate,List.getElem?_map] at h2
   rw [bn (by omega),hxs] at h1
   obtain⟨j,j1,j2⟩:=k2 (i - nt) x h1
   rw [j1] at h2
   have h3:(σ[j]?).getD none=some v:=Option.some.inj h2
   refine⟨j,by rw [hN];exact j2, ?_,hfr x (List.mem_of_getElem? h1)⟩
   cases q:σ[j]? with
   | none=>rw [q] at h3;cases h3
   | some ov=>rw [q] at h3;exact congrArg some h3
 ·simp [pM]
 ·by_cases hi:i<nt
  ·rw [bx (by simpa using hi),List.getElem?_replicate,if_pos hi] at e
   cases e
   refine⟨none, ?_,trivial⟩
   rw [bx (by simpa using hi),List.getElem?_replicate,if_pos hi]
  ·rw [bn (by simpa using hi),List.length_replicate] at e
   unfold pM at e
   rw [List.getElem?_map] at e
   cases q:cs[i - nt]? with
   | none=>rw [q] at e;cases e
   | some j=>
    rw [q] at e
    have e':(ρ[j]?).getD .no=sl:=Option.some.inj e
    refine⟨(σ[j]?).getD none, ?_, ?_⟩
    ·rw [bn (by simpa using hi),List.length_replicate,List.getElem?_map,q]
     rfl
    ·cases q2:ρ[j]? with
     | none=>rw [q2] at e';subst e';trivial
     | some sl'=>
      rw [q2] at e'
      have e'':sl'=sl:=e'
      subst e''
      obtain⟨ov,z1,z2⟩:=hS.at_ j sl' q2
      rw [z1]
      exact z2
end
open PySem.W
noncomputable def Its (x:Str):It:=⟨fun i _=>i<x.cps.size,fun i H v H'=>H'=H/\ ∃ c,x.cps[i]? =some c/\v= .str ⟨#[c]⟩,fun i _=>x.cps.size<=i⟩
theorem yG {P:Program} {w:World} {K:PySem.W.Frag} {tg:Expr} {x:Str} {t:Tok} {ty:String} (it:Addr) (hty:ty="str_ascii_iterator"\/ty="str_iterator"):Turn P w K tg (Its x) [it] it (fun i h=>h.IsStrIter it ty x t i) where
 mem:=by simp
 obj:=fun i h st b hb=>by
  have e:b=it:=by simpa using hb
  subst e
  obtain⟨o,e,c,d⟩:=st
  exact⟨o,e,fun v z=>by rw [d] at z;cases z⟩
 keep:=fun i h h' st k=>by
  obtain⟨o,e,r⟩:=st
  exact⟨o,k it (by simp) o e,r⟩
 item:=by
  intro X hP hw hK hc i pins s σ H E I hf st hg
  subst hP hw hK
  have hi:i<x.cps.size:=hg
  obtain⟨f0,f1,f2,f3,f4,f5⟩:=hf it (by simp)
  have fin: ∀ (h':Heap),h'.IsStrIter it ty x t (i+1)->(∀ b o,b≠it->s.heap.get? b=some o->h'.get? b=some o)-> ∀ (tk:Nat) (u:Tok), ∃ u',(some (Value.str ⟨#[x.cps[i]]⟩ u):Option Value)=some u'/\wpAny (model X.prog X.w) X.A (letOwnedTupleGo tg (.ref it) u') (fun _ s2=> ∃ y H',Inv X pins σ H' s2/\aP y u'/\(Its x).yld i H y H'/\s2.heap.IsStrIter it ty x t (i+1)/\ ∀ b∈[it],H' b=none) E { s with heap:=h',toks:=tk }:=by
   intro h' st' sb tk u
   have I1:Inv X pins σ H { s with heap:=h',toks:=tk }:=I.turned (t':=tk) (fun b o hb e=>sb b o hb e) f0 f1 f3 f4 f5
   obtain⟨o,e,c,d⟩:=id st'
   refine⟨_,rfl,sS (s:={ s with heap:=h',toks:=tk }) e c d (by rcases hty with rfl | rfl<;>decide) ⟨.str ⟨#[x.cps[i]]⟩,H,I1,⟨u,rfl⟩,⟨rfl,_,by simp [hi],rfl⟩,st',fun b hb=>(hf b hb).1⟩⟩
  rcases hty with rfl | rfl
  ·exact wpAny_pyNext_ascii_item st (c:=x.cps[i]) (by simp [hi]) fun h' hit' hs'=>fin h' hit' (fun b o hb e=>hs'.extBut b o hb e) _ _
  ·exact wpAny_pyNext_wide_item st (c:=x.cps[i]) (by simp [hi]) fun h' hit' hs'=>fin h' hit' (fun b o hb e=>hs'.extBut b o hb e) _ _
 done:=by
  intro X hP hw hK hc i pins s σ H E I hf st hg
  subst hP hw hK
  have hi:x.cps.size<=i:=hg
  obtain⟨f0,f1,f2,f3,f4,f5⟩:=hf it (by simp)
  rcases hty with rfl | rfl
  ·exact wpAny_pyNext_ascii_end (I.ok.hd hc) st (by simp [hi]) fun h' he'=>⟨rfl,I.turned (t':=s.toks) (fun b o hb e=>he' b o hb e) f0 f1 f3 f4 f5⟩
  ·exact wpAny_pyNext_wide_end (I.ok.hd hc) st (by simp [hi]) fun h' he'=>⟨rfl,I.turned (t':=s.toks) (fun b o hb e=>he' b o hb e) f0 f1 f3 f4 f5⟩
 self:=fun A i s Q E st h=>by
  rcases hty with rfl | rfl
  ·exact wpAny_pyIter_striter_ascii st h
  ·exact wpAny_pyIter_striter_wide st h
section
variable {X:Cx} {ad:Ad} {pins:List (Addr×Obj)} {s:Shared} {σ:St} {H G:Hp} {ρ:Rho} {Q:VK} {E:Nat->Hp->Prop} {pos p:Pos} {a b c e:Expr} {f g h:F} {tg:Expr}
theorem aDf {x:Str} (hG:Same G H) (few:x.cps.size<=1000):ItH X ad (Its x) G H (rQ x):=by
 have hl:(rQ x).length=x.cps.size:=by simp [rQ]
 refine⟨fun i G1 H1 d st e=> ?_,fun G1 H1 st=>by rw [hl];exact aj _,by rw [hl];exact Nat.le_trans few (by decide)⟩
 have e': ∃ c,x.cps.toList[i]? =some c/\D.str ⟨#[c]⟩=d:=by simpa [rQ] using e
 obtain⟨c,e1,rfl⟩:=e'
 have e2:x.cps[i]? =some c:=by simpa using e1
 refine⟨(Array.getElem?_eq_some_iff.mp e2).1,fun v H2 hv=> ?_⟩
 obtain⟨rfl,c',h1,rfl⟩:=hv
 rw [e2] at h1
 cases h1
 exact⟨G1,Step.refl st.gh,by unfold Rep;rfl⟩
end
section
variable {X:Cx} {ad:Ad} {pins:List (Addr×Obj)} {s s2 s3:Shared} {σ:St} {H H2 H3 G G2:Hp} {ρ:Rho} {Q:VK} {E:Nat->Hp->Prop} {pos:Pos} {sc:Scope} {N':List Str} {fp:List Addr}
 {tg it elt:Expr} {ifs:List Expr} {k nt:Nat} {xs:List Str} {cs:List Nat} {fc:Option F} {fi fe:F}
theorem aDg (h: ∀ a b c,it≠ .Set a b c): ∀ x,foldedSetIterable it X.env x=pure x:=by
 intro x
 cases it<;>first | rfl | exact absurd rfl (h _ _ _)
structure CompSc (X:Cx) (C:Ctx) (sc:Scope) (xs:List Str) (cs:List Nat):Prop where
 kind:sc.kind= .function
 cell:Cel sc
 names: ∀ y∈sc.names,y.2= .local->sc.names.lookup y.1=some .local
 fre: ∀ x,(x,NameKind.free)∈sc.names->X.env.kindOf x=some .cell\/X.env.kindOf x=some .free
 frl: ∀ x,(x,NameKind.free)∈sc.names->sc.names.lookup x=some .free
 N:X.N=C.N
 cs:dO (fun x=>dR C x) (aO sc)=some cs
theorem mP {x:Str} (h:x∈aO sc):(x,NameKind.free)∈sc.names:=by
 unfold aO at h
 obtain⟨p,hp,rfl⟩:=aq.mp h
 obtain⟨h1,h2⟩:=List.mem_filter.mp hp
 obtain⟨y,kk⟩:=p
 have:kk= .free:=by simpa using h2
 subst this
 exact h1
theorem aIp {W:It->Hp->Prop} (hr:RK X.K ad G H (bO k cs fi fc fe ρ) Q E)
  (q: ∀ J G2 H2 ds all,Step G H G2 H2->ItH X ad J G2 H2 ds->bT (eI k (pM cs ρ) fc fe) ds=some all->RK X.K ad G2 H2 (.ow all) Q E->W J H2):IK X ad G H (fi ρ) W E:=by
 unfold bO at hr
 cases e:fi ρ with
 | ok d=>
  rw [e] at hr
  have hr':RK X.K ad G H (match jT d with | some ds=>(match bT (eI k (pM cs ρ) fc fe) ds with | some xs=> .ow xs | none=> .bad) | none=> .bad) Q E:=hr
  cases e2:jT d with
  | none=>rw [e2] at hr';exact hr'.elim
  | some ds=>
   rw [e2] at hr'
   have hr2:RK X.K ad G H (match bT (eI k (pM cs ρ) fc fe) ds with | some xs=> .ow xs | none=> .bad) Q E:=hr'
   cases e3:bT (eI k (pM cs ρ) fc fe) ds with
   | none=>rw [e3] at hr2;exact hr2.elim
   | some all=>
    rw [e3] at hr2
    exact⟨ds,e2,fun J G' H' st hi=>q J G' H' ds all st hi e3 (RK.step hr2 st)⟩
 | ow l=>
  rw [e] at hr
  have hr2:RK X.K ad G H (match bT (eI k (pM cs ρ) fc fe) l with | some xs=> .ow xs | none=> .bad) Q E:=hr
  cases e3:bT (eI k (pM cs ρ) fc fe) l with
  | none=>rw [e3] at hr2;exact hr2.elim
  | some all=>
   rw [e3] at hr2
   exact fun J G' H' st hi=>q J G' H' l all st hi e3 (RK.step hr2 st)
 | ex c=>rw [e] at hr;exact hr
 | bad=>rw [e] at hr;exact hr
theorem aDh {C:Ctx} (hc:X.calm=true) (S:CompSc X C sc xs cs) (hi:MI X ad tg it fi) (hset: ∀ a b c,it≠ .Set a b c) (hxs:xs.length=if k=0 then 1 else k)
  (hg: ∀ fp s3 H3 pins',PG (cX X (xs++aO sc) sc s3 H3 fp pins') tg (gTg X.K k)) (hts: ∀ fp s3 H3 pins',MTs (cX X (xs++aO sc) sc s3 H3 fp pins') ad ifs fc) (he: ∀ fp s3 H3 pins',ME (cX X (xs++aO sc) sc s3 H3 fp pins') ad elt fe):
  ME X ad (.ListComp elt [⟨tg,it,ifs,0⟩] sc pos) (bO k cs fi fc fe):=by
 intro pins s σ H Q I ⟨G,ρ,E,hG,hS,hx,hr⟩
 rw [eval_ListComp]
 have hcl:closureFor sc X.env=pure (iT X.env.cells sc.names []):=gM fun x hx=>by
  obtain⟨c,h⟩:=I.ok.has x (S.fre x hx)
  rw [h];rfl
 refine wpAny_comprehension_free (use:=none) rfl (aDg hset) hcl S.kind S.names ?_
 show wpAny (model X.prog X.w) X.A (eval it X.env) _ X.xe s
 refine L2.thn (hi pins s σ H _ I ⟨G,ρ,E,hG,hS,hx,aIp (W:=fun J H2=> ∃ G2 ds all,Step G H G2 H2/\ItH X ad J G2 H2 ds/\bT (eI k (pM cs ρ) fc fe) ds=some all/\RK X.K ad G2 H2 (.ow all) Q E) hr fun J G2 H2 ds all a b c d=>⟨G2,ds,all,a,b,c,d⟩⟩) fun v s1 h1=>
  L2.thn h1 fun itv s2 hz_=> ?_
 obtain⟨itA,fp,tn,J,H2,e,I2,T,st2,f2,G2,ds,all,sp,hit,hgo,hr2⟩:=hz_
 subst e
 obtain⟨σc,l1,l2,l3⟩:=jY (xs:=xs) (sc:=sc) (nt:=if k=0 then 1 else k) hxs S.N S.cs (fun x h=>mP h) (hS.step sp) I2.len
 refine mO (σc:=σc) hc I2 T st2 f2 hit hgo sp.gh S.kind S.cell S.fre S.frl l1 l2 rfl l3 (hg fp) (hts fp) (he fp) fun s3 s' H3 H' G' σ' D vs I3 f3 J' sp' hD gD hD' r'=> ?_
 obtain⟨m,hns,_⟩:=J'.loc
 refine⟨m,hns,fun h' sb=>⟨.ref D,H',aA7 (fpO:=f3) I3 J' sb,rfl,hr2 D vs G' H' sp' hD gD hD' r'⟩⟩
theorem aDi {a:Addr} {vs:List V} {ds:List D} (hq:SqT X.K H a vs) (r:aF X.K ad G ds vs) (hG:Same G H) (few:vs.length<=sizeLine):ItH X ad (Itt X.K a) G H ds:=by
 refine⟨fun i G1 H1 d st e=> ?_,fun G1 H1 st=>⟨vs,st.sh.seqT hq,by rw [r.length];exact aj _⟩,by rw [<-r.length];exact few⟩
 obtain⟨v,e1,r1⟩:=r.get e
 refine⟨⟨vs,v,st.sh.seqT hq,e1⟩, ?_⟩
 rintro x H2 ⟨rfl,y⟩
 have:=y vs (st.sh.seqT hq)
 rw [e1] at this
 cases this
 exact⟨G1,Step.refl st.gh,r1.mono st.sg⟩
theorem aDj {a:Addr} {vs:List V} {ds:List D} (hq:SqL X.K H a vs) (r:aF X.K ad G ds vs) (hG:Same G H) (few:vs.length<=sizeLine):ItH X ad (Itl X.K a) G H ds:=by
 refine⟨fun i G1 H1 d st e=> ?_,fun G1 H1 st=>⟨vs,st.sh.seq hq,by rw [r.length];exact aj _⟩,by rw [<-r.length];exact few⟩
 obtain⟨v,e1,r1⟩:=r.get e
 refine⟨⟨vs,v,st.sh.seq hq,e1⟩, ?_⟩
 rintro x H2 ⟨rfl,y⟩
 have:=y vs (st.sh.seq hq)
 rw [e1] at this
 cases this
 exact⟨G1,Step.refl st.gh,r1.mono st.sg⟩
theorem p5 {a:Expr} {f:F} (ha:ML X ad a f):MI X ad tg a f:=by
 intro pins s σ H W I ⟨G,ρ,E,hG,hS,hx,hr⟩
 -- the value, then its iterator
 have key0: ∀ (d:D) (ds:List D),items d=some ds->(∀ J G' H',Step G H G' H'->ItH X ad J G' H' ds->W J H')-> ∀ u s1 v H1 G1,Inv X pins σ H1 s1->aP v u->Step G H G1 H1->Seq X ad G1 H1 d v->wpAny (model X.prog X.w) X.A (pyIter u) (PIE X pins σ tg W) X.xe s1:=by
  intro d ds e hw u s1 v H1 G1 I1 r1 st q
  obtain⟨p,vs,rfl,hq,rq⟩:=q.items st.gh e
  cases (show u=Value.ref p from r1)
  rcases hq with ⟨_,hq⟩ | ⟨_,hq⟩
  ·obtain⟨its,rv,pt,hz⟩:=I1.tuple hq
   refine wpAny_pyIter_tuple (show s1.heap.IsTuple p its.toArray from pt) ?_
   refine⟨s1.heap.objs.size,[s1.heap.objs.size],_,_,H1,rfl,I1.kept (t':=s1.toks) fun b o e=>af _ e,jO p _,⟨_,ag _ rfl,rfl,rfl⟩,fun b hb=> ?_,hw _ G1 H1 st (aDi hq rq st.gh hz)⟩
   have e:b=s1.heap.objs.size:=by simpa using hb
   subst e
   exact I1.fpOk (aj _) (I1.hok.fresh (aj _))
  ·obtain⟨its,rv,pt,hz⟩:=I1.list hq
   refine wpAny_pyIter_list pt.isList ?_
   refine⟨s1.heap.objs.size,[s1.heap.objs.size],_,_,H1,rfl,I1.kept (t':=s1.toks) fun b o e=>af _ e,lO p _,⟨_,ag _ rfl,rfl,rfl⟩,fun b hb=> ?_,hw _ G1 H1 st (aDj hq rq st.gh hz)⟩
   have e:b=s1.heap.objs.size:=by simpa using hb
   subst e
   exact I1.fpOk (aj _) (I1.hok.fresh (aj _))
 have key: ∀ (d:D) (ds:List D),jT d=some ds->(∀ J G' H',Step G H G' H'->ItH X ad J G' H' ds->W J H')-> ∀ u s1 v H1 G1,Inv X pins σ H1 s1->aP v u->Step G H G1 H1->Seq X ad G1 H1 d v->wpAny (model X.prog X.w) X.A (pyIter u) (PIE X pins σ tg W) X.xe s1:=by
  intro d ds e hw u s1 v H1 G1 I1 r1 st q
  cases d with
  | tup xs=>exact key0 (.tup xs) ds (show items (.tup xs)=some ds from e) hw u s1 v H1 G1 I1 r1 st q
  | lst xs=>exact key0 (.lst xs) ds (show items (.lst xs)=some ds from e) hw u s1 v H1 G1 I1 r1 st q
  | str x=>
   have e':(if x.cps.size<=1000 then some (rQ x) else none)=some ds:=e
   by_cases hl:x.cps.size<=1000
   ·rw [if_pos hl] at e'
    cases e'
    have q':Rep X.K ad G1 (.str x) v:=by
     rcases q with q | ⟨_,_,_,z,_⟩
     ·exact q
     ·cases z
    unfold Rep at q'
    subst q'
    obtain⟨t,rfl⟩:=(show ∃ t,u=Value.str x t from r1)
    have go: ∀ (ty:String) (o:Obj),(ty="str_ascii_iterator"\/ty="str_iterator")->(s1.heap.push o).IsStrIter s1.heap.objs.size ty x t 0->PIE X pins σ tg W (.ref s1.heap.objs.size) { s1 with heap:=s1.heap.push o }:=fun ty o hty hst=>by
     refine⟨s1.heap.objs.size,[s1.heap.objs.size],_,_,H1,rfl,I1.kept (t':=s1.toks) fun b o e=>af _ e,yG _ hty,hst,fun b hb=> ?_,hw _ G1 H1 st (aDf st.gh hl)⟩
     have e:b=s1.heap.objs.size:=by simpa using hb
     subst e
     exact I1.fpOk (aj _) (I1.hok.fresh (aj _))
    cases hA:x.cps.all (· <128)
    ·exact wpAny_pyIter_wide hA (go _ _ (.inr rfl) ⟨_,ag _ rfl,rfl,rfl⟩)
    ·exact wpAny_pyIter_ascii hA (go _ _ (.inl rfl) ⟨_,ag _ rfl,rfl,rfl⟩)
   ·rw [if_neg hl] at e'
    cases e'
  | _=>cases e
 cases e:f ρ with
 | ok d=>
  rw [e] at hr
  obtain⟨ds,e2,hw⟩:=hr
  exact L2.thn (ha pins s σ H (fun v H1=> ∃ G1,Step G H G1 H1/\Seq X ad G1 H1 d v) I ⟨G,ρ,E,hG,hS,hx,by rw [e];exact fun v G1 H1 st q=>⟨G1,st,q⟩⟩) fun u s1 ⟨v,H1,I1,r1,G1,st,q⟩=>key d ds e2 hw u s1 v H1 G1 I1 r1 st q
 | ow l=>
  rw [e] at hr
  exact L2.thn (ha pins s σ H (fun v H1=> ∃ G1,Step G H G1 H1/\Rep X.K ad G1 (.lst l) v) I ⟨G,ρ,E,hG,hS,hx,by rw [e];exact fun p vs G1 H1 st n m e' q=>bF st n m e' q⟩) fun u s1 ⟨v,H1,I1,r1,G1,st,q⟩=>key (.lst l) l rfl hr u s1 v H1 G1 I1 r1 st (.inl q)
 | ex c=>
  rw [e] at hr
  exact L2.thn (ha pins s σ H (fun v H1=>False) I ⟨G,ρ,E,hG,hS,hx,by rw [e];exact hr⟩) fun u s1 ⟨v,H1,I1,r1,q⟩=>q.elim
 | bad=>
  rw [e] at hr
  exact az hr
theorem aDk {lo:Int} {n:Nat} (hG:Same G H) (few:n<=sizeLine):ItH X ad (Itr lo n) G H ((List.range n).map fun(i:Nat)=>D.int (lo+(i:Int))):=by
 refine⟨fun i G1 H1 d st e=> ?_,fun G1 H1 st=>by simp [Itr],by simpa using few⟩
 rw [List.getElem?_map] at e
 cases q:(List.range n)[i]? with
 | none=>rw [q] at e;cases e
 | some j=>
  rw [q] at e
  obtain⟨hi,hj⟩:=ax.mp q
  rw [List.length_range] at hi
  rw [List.getElem_range] at hj
  subst hj
  cases e
  refine⟨hi, ?_⟩
  rintro x H2 ⟨rfl,rfl⟩
  exact⟨G1,Step.refl st.gh,aQ⟩
theorem uL (n:Nat):nY n=(List.range n).map fun(i:Nat)=>D.int (0+(i:Int)):=by
 unfold nY
 congr 1
 funext i
 rw [Int.zero_add]
theorem kW {f:F} {k:D->R} {W:It->Hp->Prop} {Q':VK} (hG:Same G H) (hS:SL X.K ad G H ρ σ) (hx:XP X ad σ E) (hr:IK X ad G H ((f ρ).bind k) W E)
  (q: ∀ v d G1 H1,Step G H G1 H1->Rep X.K ad G1 d v->IK X ad G1 H1 (k d) W E->Q' v H1):tE X ad f σ H Q':=by
 have ikst: ∀ {r:R} {G1 H1:Hp},IK X ad G H r W E->Step G H G1 H1->IK X ad G1 H1 r W E:=fun {r G1 H1} h st=>by
  cases r with
  | ok d=>obtain⟨ds,e,h⟩:=h;exact⟨ds,e,fun J G' H' st' hi=>h J G' H' (st.trans st') hi⟩
  | ow l=>exact fun J G' H' st' hi=>h J G' H' (st.trans st') hi
  | ex c=>exact fun G' H' st'=>h G' H' (st.trans st')
  | bad=>exact h
 refine⟨G,ρ,E,hG,hS,hx, ?_⟩
 cases e:f ρ with
 | ok d=>
  rw [e] at hr
  exact fun v G1 H1 st r=>q v d G1 H1 st r (ikst hr st)
 | ow xs=>
  rw [e] at hr
  intro p vs G1 H1 st n m e' r
  obtain⟨G2,st2,r2⟩:=bF (X:=X) (ad:=ad) st n m e' r
  exact q _ _ G2 H1 st2 r2 (ikst hr st2)
 | ex c=>
  rw [e] at hr
  exact hr
 | bad=>
  rw [e] at hr
  exact hr
theorem yH {a:Expr} {f:F} {p:Pos} (hg:L2.Gl X "range") (hm:X.mg "range"=none) (ha:ME X ad a f) (hs:starEach [a] X.env=(false,eval a X.env)::starEach [] X.env):MI X ad tg (.Call (.Name "range" p) [a] [] pos) (bN f):=by
 intro pins s σ H W I ⟨G,ρ,E,hG,hS,hx,hr⟩
 refine lP (ta:=iJ (tE X ad f) xP) hg hm (bE ha cL hs) hs pins s σ H W I ?_
 show tE X ad f σ H fun v H1=> ∃ j:Int,[v]=[.int j]/\ -(2 ^ 62)<=j/\j<2 ^ 62/\W (Itr 0 j.toNat) H1
 refine kW hG hS hx hr fun v d G1 H1 st r k=> ?_
 cases d<;>try exact az k
 rename_i i
 unfold Rep at r;subst r
 have k':IK X ad G1 H1 (if -100000<=i/\i<=100000 then .ok (.lst (nY i.toNat)) else .bad) W E:=k
 by_cases hc: -100000<=i/\i<=100000
 ·rw [if_pos hc] at k'
  obtain⟨ds,e,hw⟩:=k'
  cases e
  refine⟨i,rfl,by omega,by omega,hw _ G1 H1 (Step.refl st.gh) ?_⟩
  rw [uL]
  exact aDk st.gh (by rw [sizeLine_eq];omega)
 ·rw [if_neg hc] at k'
  exact k'.elim
end
def eV (H:Hp) (ρ:Rho) (σ:St) (i:Nat) (as:List Addr):Prop:= ∃ C r p dx d l1 l2,ρ[i]? =some (Slot.rk C r)/\σ[i]? =some (some (V.ref p))/\H p=some (HO.ins C dx [("held",V.ref d),("done",V.ref l1),("undone",V.ref l2)])/\as=[p,dx,d,l1,l2]
structure RS (H₀ H:Hp) (ρ:Rho) (σ:St):Prop where
 h0: ∀ i as,eV H ρ σ i as-> ∀ a∈as,H₀ a=none
 ow: ∀ i as,eV H ρ σ i as-> ∀ a∈as, ∀ (j:Nat) (sl:Slot),ρ[j]? =some sl->sl.owns=true->σ[j]? ≠some (some (.ref a))
 rr: ∀ i j as as' a,eV H ρ σ i as->eV H ρ σ j as'->a∈as->a∈as'->i=j
section
variable {K:PySem.W.Frag} {ad:Ad} {G H H1 H₀:Hp} {ρ:Rho} {σ:St} {i:Nat} {as:List Addr}
theorem eV.in (h:SL K ad G H ρ σ) (f:eV H ρ σ i as): ∃ C r p dx d l1 l2,ρ[i]? =some (.rk C r)/\σ[i]? =some (some (V.ref p))/\RackIn K ad C G H p r dx d l1 l2/\as=[p,dx,d,l1,l2]:=by
 obtain⟨C,r,p,dx,d,l1,l2,e1,e2,e3,e4⟩:=f
 obtain⟨p',dx',d',l1',l2',q1,q2⟩:=h.rk e1
 rw [e2] at q1
 cases q1
 have:=q2.ins
 rw [e3] at this
 cases this
 exact⟨C,r,p,dx,d,l1,l2,e1,e2,q2,e4⟩
theorem eV.at (h:SL K ad G H ρ σ) (f:eV H ρ σ i as): ∀ a∈as,G a=none/\H a≠none:=by
 obtain⟨C,r,p,dx,d,l1,l2,e1,e2,q,rfl⟩:=f.in h
 obtain⟨kvs,a1,a2⟩:=q.held
 obtain⟨v1,b1,b2⟩:=q.done
 obtain⟨v2,c1,c2⟩:=q.undone
 intro a m
 simp only [au,List.not_mem_nil,or_false] at m
 rcases m with rfl | rfl | rfl | rfl | rfl
 ·exact⟨q.gp,by rw [q.ins];exact fun z=>nomatch z⟩
 ·exact⟨q.gx,by rw [q.own];exact fun z=>nomatch z⟩
 ·exact⟨q.gd,by rw [a1];exact fun z=>nomatch z⟩
 ·exact⟨q.g1,by rw [b1];exact fun z=>nomatch z⟩
 ·exact⟨q.g2,by rw [c1];exact fun z=>nomatch z⟩
theorem eV.back (h:SL K ad G H ρ σ) (s:Same H H1) (f:eV H1 ρ σ i as):eV H ρ σ i as:=by
 obtain⟨C,r,p,dx,d,l1,l2,e1,e2,e3,e4⟩:=f
 obtain⟨p',dx',d',l1',l2',q1,q2⟩:=h.rk e1
 rw [e2] at q1
 cases q1
 have:=s _ _ q2.ins
 rw [e3] at this
 cases this
 exact⟨C,r,p,dx,d,l1,l2,e1,e2,q2.ins,e4⟩
theorem RS.same (R:RS H₀ H ρ σ) (h:SL K ad G H ρ σ) (s:Same H H1):RS H₀ H1 ρ σ:=
 ⟨fun i as f=>R.h0 i as (f.back h s),fun i as f=>R.ow i as (f.back h s),fun i j as as' a f f'=>R.rr i j as as' a (f.back h s) (f'.back h s)⟩
theorem eV.unset {k:Nat} {sn:Slot} {ov:Option V} (w:sn.isRk=false) (f:eV H (ρ.set i sn) (σ.set i ov) k as):k≠i/\eV H ρ σ k as:=by
 obtain⟨C,r,p,dx,d,l1,l2,e1,e2,e3,e4⟩:=f
 have ne:k≠i:=fun z=>by
  subst z
  have hl:k<ρ.length:=by have:=(ax.mp e1).1;rwa [List.length_set] at this
  rw [bj hl] at e1
  cases e1
  cases w
 rw [ba (Ne.symm ne)] at e1 e2
 exact⟨ne,C,r,p,dx,d,l1,l2,e1,e2,e3,e4⟩
theorem RS.set {sn:Slot} {ov:Option V} (R:RS H₀ H ρ σ) (w:sn.isRk=false) (n: ∀ a,sn.owns=true->ov=some (.ref a)-> ∀ k as,eV H ρ σ k as->a∉as):RS H₀ H (ρ.set i sn) (σ.set i ov):=by
 refine⟨fun k as f=>R.h0 k as (f.unset w).2,fun k as f a ha j sl e1 e2 e3=> ?_,fun k k' as as' a f f'=>R.rr k k' as as' a (f.unset w).2 (f'.unset w).2⟩
 by_cases z:j=i
 ·subst z
  have hl:j<ρ.length:=by have:=(ax.mp e1).1;rwa [List.length_set] at this
  have hl2:j<σ.length:=by have:=(ax.mp e3).1;rwa [List.length_set] at this
  rw [bj hl] at e1
  rw [bj hl2] at e3
  cases e1
  cases e3
  exact n a e2 rfl k as (f.unset w).2 ha
 ·rw [ba (Ne.symm z)] at e1 e3
  exact R.ow k as (f.unset w).2 a ha j sl e1 e2 e3
theorem eV.reset {k:Nat} {sn:Slot} (w:sn.isRk=false) (f:eV H (ρ.set i sn) σ k as):eV H ρ σ k as:=by
 obtain⟨C,r,p,dx,d,l1,l2,e1,e2,e3,e4⟩:=f
 have ne:k≠i:=fun z=>by
  subst z
  have hl:k<ρ.length:=by have:=(ax.mp e1).1;rwa [List.length_set] at this
  rw [bj hl] at e1
  cases e1
  cases w
 rw [ba (Ne.symm ne)] at e1
 exact⟨C,r,p,dx,d,l1,l2,e1,e2,e3,e4⟩
theorem RS.re {sl₀ sn:Slot} (R:RS H₀ H ρ σ) (w:sn.isRk=false) (e:ρ[i]? =some sl₀) (w₀:sl₀.owns=true):RS H₀ H (ρ.set i sn) σ:=by
 refine⟨fun k as f=>R.h0 k as (f.reset w),fun k as f a ha j sl e1 e2 e3=> ?_,fun k k' as as' a f f'=>R.rr k k' as as' a (f.reset w) (f'.reset w)⟩
 by_cases z:j=i
 ·subst z
  exact R.ow k as (f.reset w) a ha j sl₀ e w₀ e3
 ·rw [ba (Ne.symm z)] at e1
  exact R.ow k as (f.reset w) a ha j sl e1 e2 e3
theorem RackIn.ups {C:Addr} {p:Addr} {r:Rk} {dx d l1 l2 a:Addr} {o:HO} (h:RackIn K ad C G H p r dx d l1 l2) (ha:a∉[p,dx,d,l1,l2]):RackIn K ad C G (upd H a o) p r dx d l1 l2:=by
 simp only [au,List.not_mem_nil,or_false,not_or] at ha
 obtain⟨n1,n2,n3,n4,n5⟩:=ha
 obtain⟨kvs,a1,a2⟩:=h.held
 obtain⟨v1,b1,b2⟩:=h.done
 obtain⟨v2,c1,c2⟩:=h.undone
 exact⟨by rw [aA (Ne.symm n1)];exact h.ins,by rw [aA (Ne.symm n2)];exact h.own,⟨kvs,by rw [aA (Ne.symm n3)];exact a1,a2⟩,⟨v1,by rw [aA (Ne.symm n4)];exact b1,b2⟩,⟨v2,by rw [aA (Ne.symm n5)];exact c1,c2⟩,h.ne,h.gp,h.gx,h.gd,h.g1,h.g2⟩
theorem RackIn.shr {C:Addr} {p:Addr} {r:Rk} {dx d l1 l2 a:Addr} {o:HO} (h:RackIn K ad C G H p r dx d l1 l2) (ha:a∉[p,dx,d,l1,l2]) (le:Same G (upd G a o)):RackIn K ad C (upd G a o) H p r dx d l1 l2:=by
 simp only [au,List.not_mem_nil,or_false,not_or] at ha
 obtain⟨n1,n2,n3,n4,n5⟩:=ha
 obtain⟨kvs,a1,a2⟩:=h.held
 obtain⟨v1,b1,b2⟩:=h.done
 obtain⟨v2,c1,c2⟩:=h.undone
 exact⟨h.ins,h.own,⟨kvs,a1,a2.mono le⟩,⟨v1,b1,b2.mono le⟩,⟨v2,c1,c2.mono le⟩,h.ne,by rw [aA (Ne.symm n1)];exact h.gp,by rw [aA (Ne.symm n2)];exact h.gx,by rw [aA (Ne.symm n3)];exact h.gd,by rw [aA (Ne.symm n4)];exact h.g1,by rw [aA (Ne.symm n5)];exact h.g2⟩
end
structure SS (X:Cx) (ad:Ad) (G₀ G H:Hp) (ρ:Rho) (σ:St):Prop where
 st:Step G₀ X.H₀ G H
 sl:SL X.K ad G H ρ σ
 ow: ∀ (i:Nat) (sl:Slot) (a:Addr),ρ[i]? =some sl->sl.owns=true->σ[i]? =some (some (.ref a))->X.H₀ a=none
 dj: ∀ (i j:Nat) (sl sl':Slot) (a:Addr),ρ[i]? =some sl->ρ[j]? =some sl'->sl.owns=true->sl'.owns=true->σ[i]? =some (some (.ref a))->σ[j]? =some (some (.ref a))->i=j
 rs:RS X.H₀ H ρ σ
def OKo (X:Cx) (ad:Ad) (G₀:Hp) (o:Out) (D':Ends) (E:St->Nat->Hp->Prop):Prop:=match o with
 | .nx ρ=> ∀ σ G H,SS X ad G₀ G H ρ σ->D'.nx σ H
 | .bk ρ=> ∀ σ G H,SS X ad G₀ G H ρ σ->D'.bk σ H
 | .ct ρ=> ∀ σ G H,SS X ad G₀ G H ρ σ->D'.ct σ H
 | .ex c ρ=> ∀ σ G H,SS X ad G₀ G H ρ σ->E σ c H
 | .rt (.ok d)=> ∀ v G H,Step G₀ X.H₀ G H->Rep X.K ad G d v->D'.rt v H
 | .rt (.ow xs)=> ∀ p vs G H,Step G₀ X.H₀ G H->X.H₀ p=none->G p=none->H p=some (.lst vs)->aF X.K ad G xs vs->D'.rt (.ref p) H
 | .rt _=>False
def XA (X:Cx) (ad:Ad) (Z:(St->Nat->Hp->Prop)->Prop) (E:St->Nat->Hp->Prop):Prop:=(∀ σ,XP X ad σ (E σ))/\Z E
noncomputable def tS (X:Cx) (ad:Ad) (Z:(St->Nat->Hp->Prop)->Prop) (g:FS):TS:=fun D' σ H=> ∃ G₀ G ρ E,SS X ad G₀ G H ρ σ/\XA X ad Z E/\OKo X ad G₀ (g ρ) D' E
abbrev MS (X:Cx) (ad:Ad) (Z:(St->Nat->Hp->Prop)->Prop) (st:Stmt) (g:FS):Prop:=PS X st (tS X ad Z g)
abbrev MSs (X:Cx) (ad:Ad) (Z:(St->Nat->Hp->Prop)->Prop) (st:List Stmt) (g:FS):Prop:=PSs X st (tS X ad Z g)
section
variable {X:Cx} {ad:Ad} {Z:(St->Nat->Hp->Prop)->Prop} {pins:List (Addr×Obj)} {s:Shared} {σ:St} {H G G₀:Hp} {ρ:Rho} {D':Ends} {E:St->Nat->Hp->Prop} {pos pos':Pos} {e:Expr} {f:F} {g h:FS} {st:Stmt} {sts:List Stmt}
theorem SS.step {G1 H1:Hp} (S:SS X ad G₀ G H ρ σ) (t:Step G H G1 H1):SS X ad G₀ G1 H1 ρ σ:=⟨S.st.trans t,S.sl.step t,S.ow,S.dj,S.rs.same S.sl t.sh⟩
theorem gN {G₀ Gs G H H₀ Hs:Hp} (a:Step G₀ H₀ Gs Hs) (b:Step Gs H₀ G H):Step G₀ H₀ G H:=
 ⟨a.sg.trans b.sg,b.gh,b.sh,fun x h1 h2=>by
  cases q:Gs x with
  | none=>exact b.nw x q h2
  | some o=>exact a.nw x h1 (by rw [q];exact fun z=>nomatch z)⟩
theorem SS.up {Gs Hs:Hp} (a:Step G₀ X.H₀ Gs Hs) (S:SS X ad Gs G H ρ σ):SS X ad G₀ G H ρ σ:=⟨gN a S.st,S.sl,S.ow,S.dj,S.rs⟩
theorem SS.here (S:SS X ad G₀ G H ρ σ):SS X ad G G H ρ σ:=⟨⟨Same.refl _,S.st.gh,S.st.sh,fun b h1 h2=>absurd h1 h2⟩,S.sl,S.ow,S.dj,S.rs⟩
theorem OKo.rebase {o:Out} {Gs Hs:Hp} (h:OKo X ad G₀ o D' E) (a:Step G₀ X.H₀ Gs Hs):OKo X ad Gs o D' E:=by
 cases o with
 | nx ρ=>exact fun σ G H S=>h σ G H (S.up a)
 | bk ρ=>exact fun σ G H S=>h σ G H (S.up a)
 | ct ρ=>exact fun σ G H S=>h σ G H (S.up a)
 | ex c ρ=>exact fun σ G H S=>h σ G H (S.up a)
 | rt r=>
  cases r with
  | ok d=>exact fun v G H st q=>h v G H (gN a st) q
  | ow xs=>exact fun p vs G H st n m e q=>h p vs G H (gN a st) n m e q
  | ex c=>exact h
  | bad=>exact h
theorem dB {k:D->Out} {Q':VK} (S:SS X ad G₀ G H ρ σ) (hx:XA X ad Z E) (hr:OKo X ad G₀ (fQ ρ (f ρ) k) D' E)
  (q: ∀ v d G1 H1,Step G H G1 H1->Rep X.K ad G1 d v->OKo X ad G₀ (k d) D' E->Q' v H1):tE X ad f σ H Q':=by
 refine⟨G,ρ,E σ,S.st.gh,S.sl,hx.1 σ, ?_⟩
 unfold fQ at hr
 cases e:f ρ with
 | ok d=>rw [e] at hr;exact fun v G1 H1 st r=>q v d G1 H1 st r hr
 | ow xs=>
  rw [e] at hr
  intro p vs G1 H1 st n m e' r
  obtain⟨G2,st2,r2⟩:=bF (X:=X) (ad:=ad) st n m e' r
  exact q _ _ G2 H1 st2 r2 hr
 | ex c=>rw [e] at hr;exact fun G1 H1 st=>hr σ G1 H1 (S.step st)
 | bad=>rw [e] at hr;exact hr
theorem aDl:MS X ad Z (.Pass pos) bQ:=PS.imp sP fun D' σ H ⟨G₀,G,ρ,E,S,hx,hr⟩=>hr σ G H S
theorem yI:MS X ad Z (.Break pos) aNr:=PS.imp xL fun D' σ H ⟨G₀,G,ρ,E,S,hx,hr⟩=>hr σ G H S
theorem oI:MS X ad Z (.Continue pos) aHw:=PS.imp nQ fun D' σ H ⟨G₀,G,ρ,E,S,hx,hr⟩=>hr σ G H S
theorem uM:MSs X ad Z [] bQ:=PSs.imp sO fun D' σ H ⟨G₀,G,ρ,E,S,hx,hr⟩=>hr σ G H S
theorem aDm (h1:MS X ad Z st g):MSs X ad Z [st] g:=nO h1
theorem yJ (h1:MS X ad Z st g) (h2:MSs X ad Z sts h):MSs X ad Z (st::sts) (aV g h):=by
 refine PSs.imp (dN h1 h2) ?_
 rintro D' σ H ⟨G₀,G,ρ,E,S,hx,hr⟩
 refine⟨G₀,G,ρ,E,S,hx, ?_⟩
 unfold aV at hr
 cases e:g ρ with
 | nx ρ'=>rw [e] at hr;exact fun σ' G' H' S'=>⟨G₀,G',ρ',E,S',hx,hr⟩
 | bk ρ'=>rw [e] at hr;exact hr
 | ct ρ'=>rw [e] at hr;exact hr
 | ex c ρ'=>rw [e] at hr;exact hr
 | rt r=>
  rw [e] at hr
  cases r<;>exact hr
theorem uN (he:ME X ad e f):MS X ad Z (.Return (some e) pos) (dG f):=by
 refine PS.imp (pB he) ?_
 rintro D' σ H ⟨G₀,G,ρ,E,S,hx,hr⟩
 refine⟨G,ρ,E σ,S.st.gh,S.sl,hx.1 σ, ?_⟩
 unfold dG at hr
 cases e:f ρ with
 | ok d=>rw [e] at hr;exact fun v G1 H1 st r=>hr v G1 H1 (S.st.trans st) r
 | ow xs=>rw [e] at hr;exact fun p vs G1 H1 st n m e' r=>hr p vs G1 H1 (S.st.trans st) (S.st.sh.free n) m e' r
 | ex c=>rw [e] at hr;exact fun G1 H1 st=>hr σ G1 H1 (S.step st)
 | bad=>rw [e] at hr;exact hr
theorem aDn:MS X ad Z (.Return none pos) aHv:=PS.imp aB6 fun D' σ H ⟨G₀,G,ρ,E,S,hx,hr⟩=>hr .non G H S.st (by unfold Rep;rfl)
theorem aDo {i:Nat} {x:Str} {p:Pos} (hN:X.N[i]? =some x) (hv:Vis X.env.scope x) (hd:(x==("__debug__":Str))=false) (hcd:(x==("__classdict__":Str))=false):MS X ad Z (.Return (some (.Name x p)) pos) (dG (tJ i)):=by
 refine PS.imp (pB (aZ hN hv hd hcd)) ?_
 rintro D' σ H ⟨G₀,G,ρ,E,S,hx,hr⟩
 unfold dG tJ at hr
 cases e:ρ[i]? with
 | none=>rw [e] at hr;exact hr.elim
 | some sl=>
  rw [e] at hr
  cases sl with
  | no=>exact hr.elim
  | dc kvs=>exact hr.elim
  | sd kvs=>exact hr.elim
  | rk _ _=>exact hr.elim
  | sh d=>
   obtain⟨v,h1,h2⟩:=S.sl.sh e
   exact⟨v,h1,hr v G H S.st h2⟩
  | ow xs=>
   obtain⟨a,vs,h1,h2,h3,h4⟩:=S.sl.ow e
   exact⟨.ref a,h1,hr a vs G H S.st (S.ow i _ a e rfl h1) h2 h3 h4⟩
theorem aDp (he:ME X ad e f) (hs:swapsWith e none pos.line X.env=pure false):MS X ad Z (.Expr e pos) (kN f):=by
 refine PS.imp (fH he hs) ?_
 rintro D' σ H ⟨G₀,G,ρ,E,S,hx,hr⟩
 exact dB S hx hr fun v d G1 H1 st r k=>k σ G1 H1 (S.step st)
theorem SS.set {i:Nat} {d:D} {v:V} (S:SS X ad G₀ G H ρ σ) (r:Rep X.K ad G d v):SS X ad G₀ G H (ρ.set i (.sh d)) (σ.set i (some v)):=by
 have key: ∀ (j:Nat) (sl:Slot),(ρ.set i (.sh d))[j]? =some sl->(j=i/\sl= .sh d/\i<ρ.length)\/(j≠i/\ρ[j]? =some sl):=fun j sl e=>by
  by_cases z:j=i
  ·subst z
   have hl:j<ρ.length:=by have:=(ax.mp e).1;rwa [List.length_set] at this
   rw [bj hl] at e
   cases e
   exact .inl ⟨rfl,rfl,hl⟩
  ·rw [ba (Ne.symm z)] at e
   exact .inr ⟨z,e⟩
 refine⟨S.st,⟨by rw [List.length_set,List.length_set];exact S.sl.len,fun j sl e=> ?_⟩,fun j xs a e w h=> ?_,fun j j' xs ys a e e' w w' h h'=> ?_,S.rs.set rfl fun _ z=>nomatch z⟩
 ·rcases key j sl e with ⟨rfl,rfl,hl⟩ | ⟨z,e⟩
  ·exact⟨some v,bj (by rw [<-S.sl.len];exact hl),v,rfl,r⟩
  ·obtain⟨ov,h1,h2⟩:=S.sl.at_ j sl e
   exact⟨ov,by rw [ba (Ne.symm z)];exact h1,h2⟩
 ·rcases key j _ e with ⟨_,z,_⟩ | ⟨z,e⟩
  ·subst z;exact(bf w).elim
  ·rw [ba (Ne.symm z)] at h
   exact S.ow j xs a e w h
 ·rcases key j _ e with ⟨_,z,_⟩ | ⟨z,e⟩
  ·subst z;exact(bf w).elim
  ·rcases key j' _ e' with ⟨_,z',_⟩ | ⟨z',e'⟩
   ·subst z';exact(bf w').elim
   ·rw [ba (Ne.symm z)] at h
    rw [ba (Ne.symm z')] at h'
    exact S.dj j j' xs ys a e e' w w' h h'
theorem SL.own_at {K:PySem.W.Frag} {j:Nat} {sl:Slot} {p:Addr} (h:SL K ad G H ρ σ) (e:ρ[j]? =some sl) (w:sl.owns=true) (hj:σ[j]? =some (some (.ref p))):G p=none/\H p≠none:=by
 obtain⟨ov,h1,h2⟩:=h.at_ j sl e
 rw [hj] at h1
 cases h1
 cases sl with
 | no=>exact(bf w).elim
 | sh d=>exact(bf w).elim
 | sd d=>exact(bf w).elim
 | rk _ _=>exact(bf w).elim
 | ow xs=>obtain⟨a,vs,k1,k2,k3,_⟩:=h2;cases k1;exact⟨k2,by rw [k3];exact fun z=>nomatch z⟩
 | dc xs=>obtain⟨a,vs,k1,k2,k3,_⟩:=h2;cases k1;exact⟨k2,by rw [k3];exact fun z=>nomatch z⟩
theorem SS.setNew {i:Nat} {sn:Slot} {p:Addr} {G1 H1:Hp} (S:SS X ad G₀ G H ρ σ) (st:Step G H G1 H1) (n:H p=none) (r:SLi X.K ad G1 H1 sn (some (.ref p))) (wr:sn.isRk=false:=by rfl):
  SS X ad G₀ G1 H1 (ρ.set i sn) (σ.set i (some (.ref p))):=by
 have S1:=S.step st
 have key: ∀ (j:Nat) (sl:Slot),(ρ.set i sn)[j]? =some sl->(j=i/\sl=sn/\i<ρ.length)\/(j≠i/\ρ[j]? =some sl):=fun j sl e=>by
  by_cases z:j=i
  ·subst z
   have hl:j<ρ.length:=by have:=(ax.mp e).1;rwa [List.length_set] at this
   rw [bj hl] at e
   cases e
   exact .inl ⟨rfl,rfl,hl⟩
  ·rw [ba (Ne.symm z)] at e
   exact .inr ⟨z,e⟩
 -- no other slot holds the new list
 have other: ∀ (j:Nat) (sl:Slot),ρ[j]? =some sl->sl.owns=true->σ[j]? ≠some (some (.ref p)):=fun j sl ej w hj=>(S.sl.own_at ej w hj).2 n
 refine⟨S1.st,⟨by rw [List.length_set,List.length_set];exact S.sl.len,fun j sl e'=> ?_⟩,fun j ys a e' w h=> ?_,fun j j' ys zs a e1 e2 w1 w2 h1 h2=> ?_,S1.rs.set wr fun a _ z k as f m=>by
  cases z
  exact((f.back S.sl st.sh).at S.sl p m).2 n⟩
 ·rcases key j sl e' with ⟨q1,q2,hl⟩ | ⟨z,e'⟩
  ·rw [q1,q2]
   exact⟨some (.ref p),bj (by rw [<-S.sl.len];exact hl),r⟩
  ·obtain⟨ov,h1,h2⟩:=S1.sl.at_ j sl e'
   exact⟨ov,by rw [ba (Ne.symm z)];exact h1,h2⟩
 ·rcases key j _ e' with ⟨q1,_,hl⟩ | ⟨z,e'⟩
  ·rw [q1,bj (by rw [<-S.sl.len];exact hl)] at h
   cases h
   exact S.st.sh.free n
  ·rw [ba (Ne.symm z)] at h
   exact S.ow j ys a e' w h
 ·rcases key j _ e1 with ⟨q1,_,hl⟩ | ⟨z,f1⟩
  ·rcases key j' _ e2 with ⟨q2,_,_⟩ | ⟨z',f2⟩
   ·rw [q1,q2]
   ·rw [q1,bj (by rw [<-S.sl.len];exact hl)] at h1
    cases h1
    rw [ba (Ne.symm z')] at h2
    exact absurd h2 (other j' zs f2 w2)
  ·rcases key j' _ e2 with ⟨q2,_,hl⟩ | ⟨z',f2⟩
   ·rw [q2,bj (by rw [<-S.sl.len];exact hl)] at h2
    cases h2
    rw [ba (Ne.symm z)] at h1
    exact absurd h1 (other j ys f1 w1)
   ·rw [ba (Ne.symm z)] at h1
    rw [ba (Ne.symm z')] at h2
    exact S.dj j j' ys zs a f1 f2 w1 w2 h1 h2
theorem SS.setOw {i:Nat} {xs:List D} {p:Addr} {vs:List V} {G1 H1:Hp} (S:SS X ad G₀ G H ρ σ) (st:Step G H G1 H1) (n:H p=none) (m:G1 p=none) (e:H1 p=some (.lst vs)) (r:aF X.K ad G1 xs vs):
  SS X ad G₀ G1 H1 (ρ.set i (.ow xs)) (σ.set i (some (.ref p))):=S.setNew st n ⟨p,vs,rfl,m,e,r⟩
theorem aA9 {i:Nat} (S:SS X ad G₀ G H ρ σ) (hx:XA X ad Z E) (hr:OKo X ad G₀ (iP i f ρ) D' E):tE X ad f σ H fun v H1=>D'.nx (σ.set i (some v)) H1:=by
 refine⟨G,ρ,E σ,S.st.gh,S.sl,hx.1 σ, ?_⟩
 unfold iP at hr
 cases e:f ρ with
 | ok d=>rw [e] at hr;exact fun v G1 H1 st r=>hr _ G1 H1 ((S.step st).set r)
 | ow xs=>rw [e] at hr;exact fun p vs G1 H1 st n m e' r=>hr _ G1 H1 (S.setOw st n m e' r)
 | ex c=>rw [e] at hr;exact fun G1 H1 st=>hr σ G1 H1 (S.step st)
 | bad=>rw [e] at hr;exact hr
theorem aL3 {c:Expr} {a b:List Stmt} (hc:MT X ad c f) (ha:MSs X ad Z a g) (hb:MSs X ad Z b h):MS X ad Z (.If c a b pos) (sIf f g h):=by
 refine PS.imp (aGu hc ha hb) ?_
 rintro D' σ H ⟨G₀,G,ρ,E,S,hx,hr⟩
 unfold sIf at hr
 cases e:f ρ with
 | ok d=>
  rw [e] at hr
  cases d<;>try exact hr.elim
  rename_i k
  refine⟨G,ρ,E σ,S.st.gh,S.sl,hx.1 σ, .inl ⟨k,e⟩, ?_⟩
  rw [e]
  intro v G1 H1 st r
  unfold Rep at r;subst r
  refine⟨k,rfl, ?_⟩
  cases k with
  | true=>exact aAw ⟨G₀,G1,ρ,E,S.step st,hx,hr⟩
  | false=>exact aCl ⟨G₀,G1,ρ,E,S.step st,hx,hr⟩
 | ow xs=>rw [e] at hr;exact hr.elim
 | ex k=>
  rw [e] at hr
  refine⟨G,ρ,E σ,S.st.gh,S.sl,hx.1 σ, .inr ⟨k,e⟩, ?_⟩
  rw [e]
  exact fun G1 H1 st=>hr σ G1 H1 (S.step st)
 | bad=>rw [e] at hr;exact hr.elim
theorem SS.shareG {i:Nat} {sl₀ sn:Slot} {a:Addr} {o:HO} (S:SS X ad G₀ G H ρ σ) (e:ρ[i]? =some sl₀) (w₀:sl₀.owns=true) (h1:σ[i]? =some (some (.ref a))) (h3:H a=some o) (hst:Step G₀ X.H₀ (upd G a o) H) (wn:sn.owns=false)
  (r:SLi X.K ad (upd G a o) H sn (some (.ref a))) (wr:sn.isRk=false:=by rfl):SS X ad G₀ (upd G a o) H (ρ.set i sn) σ:=by
 have h2:G a=none:=(S.sl.own_at e w₀ h1).1
 have le:Same G (upd G a o):=Same.upd_new h2
 have hl:i<ρ.length:=(ax.mp e).1
 have key: ∀ (j:Nat) (sl:Slot),(ρ.set i sn)[j]? =some sl->(j=i/\sl=sn)\/(j≠i/\ρ[j]? =some sl):=fun j sl e=>by
  by_cases z:j=i
  ·subst z
   rw [bj hl] at e
   cases e
   exact .inl ⟨rfl,rfl⟩
  ·rw [ba (Ne.symm z)] at e
   exact .inr ⟨z,e⟩
 refine⟨hst,⟨by show(ρ.set i _).length=_;rw [List.length_set];exact S.sl.len,fun j sl e'=> ?_⟩,fun j ys b e' w h=> ?_,fun j j' ys zs b e1 e2 w1 w2 k1 k2=> ?_,S.rs.re wr e w₀⟩
 ·rcases key j sl e' with ⟨q1,q2⟩ | ⟨z,e'⟩
  ·rw [q1,q2]
   exact⟨some (.ref a),h1,r⟩
  ·obtain⟨ov,k1,k2⟩:=S.sl.at_ j sl e'
   refine⟨ov,k1, ?_⟩
   cases sl with
   | no=>trivial
   | sh d=>obtain⟨v,k3,k4⟩:=k2;exact⟨v,k3,k4.mono le⟩
   | ow ys=>
    obtain⟨b,ws,k3,k4,k5,k6⟩:=k2
    have ne:b≠a:=fun q=>by
     subst q
     subst k3
     exact z (S.dj j i _ _ b e' e rfl w₀ k1 h1)
    exact⟨b,ws,k3,by rw [aA ne];exact k4,k5,k6.mono le⟩
   | dc ys=>
    obtain⟨b,ws,k3,k4,k5,k6,k7⟩:=k2
    have ne:b≠a:=fun q=>by
     subst q
     subst k3
     exact z (S.dj j i _ _ b e' e rfl w₀ k1 h1)
    exact⟨b,ws,k3,by rw [aA ne];exact k4,k5,k6.mono le,k7⟩
   | sd ys=>
    obtain⟨b,ws,k3,k4,k5,k6,k7⟩:=k2
    exact⟨b,ws,k3,le _ _ k4,k5,k6.mono le,k7⟩
   | rk C r=>
    obtain⟨p,dx,d,l1,l2,k3,k4⟩:=k2
    have ft:eV H ρ σ j [p,dx,d,l1,l2]:=⟨C,r,p,dx,d,l1,l2,e',by rw [k1,k3],k4.ins,rfl⟩
    exact⟨p,dx,d,l1,l2,k3,k4.shr (fun m=>S.rs.ow j _ ft a m i sl₀ e w₀ h1) le⟩
 ·rcases key j _ e' with ⟨_,z⟩ | ⟨z,e'⟩
  ·rw [z,wn] at w;exact(bf w).elim
  ·exact S.ow j ys b e' w h
 ·rcases key j _ e1 with ⟨_,z⟩ | ⟨z,e1⟩
  ·rw [z,wn] at w1;exact(bf w1).elim
  ·rcases key j' _ e2 with ⟨_,z'⟩ | ⟨z',e2⟩
   ·rw [z',wn] at w2;exact(bf w2).elim
   ·exact S.dj j j' ys zs b e1 e2 w1 w2 k1 k2
theorem SS.frz1 {i:Nat} (S:SS X ad G₀ G H ρ σ): ∃ G',SS X ad G₀ G' H (SK.frz1 i ρ) σ/\Same G G':=by
 unfold SK.frz1
 cases e:ρ[i]? with
 | none=>exact⟨G,S,Same.refl _⟩
 | some sl=>
  cases sl with
  | no=>exact⟨G,S,Same.refl _⟩
  | sd d=>exact⟨G,S,Same.refl _⟩
  | rk _ _=>exact⟨G,S,Same.refl _⟩
  | sh d=>exact⟨G,S,Same.refl _⟩
  | dc kvs=>
   obtain⟨a,es,h1,h2,h3,h4,h5⟩:=S.sl.dc e
   have le:Same G (upd G a (dcO a es)):=Same.upd_new h2
   exact⟨_,S.shareG e rfl h1 h3 (S.st.shareO (S.ow i _ a e rfl h1) h2 h3) rfl ⟨a,es,rfl,aE,h3,h4.mono le,h5⟩,le⟩
  | ow xs=>
   obtain⟨a,vs,h1,h2,h3,h4⟩:=S.sl.ow e
   have le:Same G (upd G a (.lst vs)):=Same.upd_new h2
   exact⟨_,S.shareG e rfl h1 h3 (S.st.share (S.ow i _ a e rfl h1) h2 h3) rfl ⟨.ref a,rfl,by unfold Rep;exact⟨a,vs,rfl,SqL.of aE,h4.mono le⟩⟩,le⟩
theorem SS.frz {is:List Nat}: ∀ {ρ:Rho} {G:Hp},SS X ad G₀ G H ρ σ-> ∃ G',SS X ad G₀ G' H (SK.frz is ρ) σ/\Same G G':=by
 induction is with
 | nil=>intro ρ G S;exact⟨G,S,Same.refl _⟩
 | cons i is ih=>
  intro ρ G S
  obtain⟨G1,S1,l1⟩:=S.frz1 (i:=i)
  obtain⟨G2,S2,l2⟩:=ih S1
  exact⟨G2,S2,l1.trans l2⟩
theorem dS {is:List Nat} (h1:MS X ad Z st g):MS X ad Z st (b9 is g):=by
 cases is with
 | nil=>exact h1
 | cons i is=>
  refine PS.imp h1 ?_
  rintro D' σ H ⟨G₀,G,ρ,E,S,hx,hr⟩
  obtain⟨G',S',_⟩:=S.frz (is:=i::is)
  exact⟨G₀,G',_,E,S',hx,hr⟩
end
section
variable {X:Cx} {ad:Ad} {Z:(St->Nat->Hp->Prop)->Prop} {pins:List (Addr×Obj)} {s:Shared} {σ:St} {H G G₀:Hp} {ρ:Rho} {D':Ends} {E:St->Nat->Hp->Prop} {pos pos':Pos} {e:Expr} {f:F} {g h:FS} {st:Stmt} {sts:List Stmt}
theorem SS.updG {i:Nat} {sl₀ sn:Slot} {a:Addr} {o:HO} (S:SS X ad G₀ G H ρ σ) (e:ρ[i]? =some sl₀) (w₀:sl₀.owns=true) (h1:σ[i]? =some (some (.ref a))) (r:SLi X.K ad G (upd H a o) sn (some (.ref a))) (wr:sn.isRk=false:=by rfl):SS X ad G₀ G (upd H a o) (ρ.set i sn) σ:=by
 have n0:X.H₀ a=none:=S.ow i sl₀ a e w₀ h1
 have h2:G a=none:=(S.sl.own_at e w₀ h1).1
 have hl:i<ρ.length:=(ax.mp e).1
 have key: ∀ (j:Nat) (sl:Slot),(ρ.set i sn)[j]? =some sl->(j=i/\sl=sn)\/(j≠i/\ρ[j]? =some sl):=fun j sl e=>by
  by_cases z:j=i
  ·subst z
   rw [bj hl] at e
   cases e
   exact .inl ⟨rfl,rfl⟩
  ·rw [ba (Ne.symm z)] at e
   exact .inr ⟨z,e⟩
 refine⟨mM S.st n0 h2,⟨by rw [List.length_set];exact S.sl.len,fun j sl e'=> ?_⟩,fun j zs b e' w h=> ?_,fun j j' zs zs' b e1 e2 w1 w2 k1 k2=> ?_, ?_⟩
 ·rcases key j sl e' with ⟨q1,q2⟩ | ⟨z,f1⟩
  ·rw [q1,q2]
   exact⟨some (.ref a),h1,r⟩
  ·obtain⟨ov,k1,k2⟩:=S.sl.at_ j sl f1
   refine⟨ov,k1, ?_⟩
   cases sl with
   | no=>trivial
   | sh d=>exact k2
   | ow zs=>
    obtain⟨b,vs',k3,k4,k5,k6⟩:=k2
    have ne:b≠a:=fun q=>by
     subst q
     subst k3
     exact z (S.dj j i _ _ b f1 e rfl w₀ k1 h1)
    exact⟨b,vs',k3,k4,by rw [aA ne];exact k5,k6⟩
   | dc zs=>
    obtain⟨b,vs',k3,k4,k5,k6⟩:=k2
    have ne:b≠a:=fun q=>by
     subst q
     subst k3
     exact z (S.dj j i _ _ b f1 e rfl w₀ k1 h1)
    exact⟨b,vs',k3,k4,by rw [aA ne];exact k5,k6⟩
   | sd zs=>
    obtain⟨b,vs',k3,k4,k5,k6⟩:=k2
    have ne:b≠a:=fun q=>by
     rw [q] at k4
     rw [h2] at k4
     cases k4
    exact⟨b,vs',k3,k4,by rw [aA ne];exact k5,k6⟩
   | rk C r=>
    obtain⟨p,dx,d,l1,l2,k3,k4⟩:=k2
    have ft:eV H ρ σ j [p,dx,d,l1,l2]:=⟨C,r,p,dx,d,l1,l2,f1,by rw [k1,k3],k4.ins,rfl⟩
    exact⟨p,dx,d,l1,l2,k3,k4.ups (fun m=>S.rs.ow j _ ft a m i sl₀ e w₀ h1)⟩
 ·rcases key j _ e' with ⟨q1,q2⟩ | ⟨z,f1⟩
  ·rw [q1,h1] at h
   cases h
   exact n0
  ·exact S.ow j zs b f1 w h
 ·rcases key j _ e1 with ⟨q1,_⟩ | ⟨z,f1⟩
  ·rcases key j' _ e2 with ⟨q2,_⟩ | ⟨z',f2⟩
   ·rw [q1,q2]
   ·rw [q1] at k1 ⊢
    exact S.dj i j' _ zs' b e f2 w₀ w2 k1 k2
  ·rcases key j' _ e2 with ⟨q2,_⟩ | ⟨z',f2⟩
   ·rw [q2] at k2 ⊢
    exact S.dj j i zs _ b f1 e w1 w₀ k1 k2
   ·exact S.dj j j' zs zs' b f1 f2 w1 w2 k1 k2
 ·refine RS.re (H:=upd H a o) ?_ wr e w₀
  have bk: ∀ {k:Nat} {as:List Addr},eV (upd H a o) ρ σ k as->eV H ρ σ k as:=fun {k as} f=>by
   obtain⟨C,r,p,dx,d,l1,l2,f1,f2,f3,f4⟩:=f
   obtain⟨p',dx',d',l1',l2',q1,q2⟩:=S.sl.rk f1
   rw [f2] at q1
   cases q1
   have ft:eV H ρ σ k [p,dx',d',l1',l2']:=⟨C,r,p,dx',d',l1',l2',f1,f2,q2.ins,rfl⟩
   have ne:p≠a:=fun z=>S.rs.ow k _ ft p (by simp) i sl₀ e w₀ (by rw [z];exact h1)
   rw [aA ne] at f3
   exact⟨C,r,p,dx,d,l1,l2,f1,f2,f3,f4⟩
  exact⟨fun k as f=>S.rs.h0 k as (bk f),fun k as f=>S.rs.ow k as (bk f),fun k k' as as' c f f'=>S.rs.rr k k' as as' c (bk f) (bk f')⟩
theorem SS.upd {i:Nat} {xs ys:List D} {a:Addr} {ws:List V} (S:SS X ad G₀ G H ρ σ) (e:ρ[i]? =some (.ow xs)) (h1:σ[i]? =some (some (.ref a))) (h2:G a=none) (r:aF X.K ad G ys ws):SS X ad G₀ G (L2.upd H a (.lst ws)) (ρ.set i (.ow ys)) σ:=
 S.updG e rfl h1 ⟨a,ws,rfl,h2,aE,r⟩
theorem hX {cpos:Pos} (hs:starEach [e] X.env=(false,eval e X.env)::starEach [] X.env):((backTo cpos (starEach [e] X.env)).all (fun x=> !x.1)&&(backToKw cpos (keywordEach [] X.env)).all (fun x=>x.1.isSome)
   &&decide ([e].length+([]:List Keyword).length+(if([]:List Keyword).isEmpty then 0 else 1)<30))=true:=by
 rw [hs]
 rfl
theorem aIq {i:Nat} {x:Str} {p ap cp:Pos} (hN:X.N[i]? =some x) (hv:Vis X.env.scope x) (hd:(x==("__debug__":Str))=false) (hcd:(x==("__classdict__":Str))=false) (he:ME X ad e f) (hs:starEach [e] X.env=(false,eval e X.env)::starEach [] X.env)
  (hline:(ap.endLine==cp.line)=true):MS X ad Z (.Expr (.Call (.Attribute (.Name x p) "append" ap) [e] [] cp) pos) (lL i f):=by
 refine PS.imp (fH (aCj (T:="list") PySem.F.plainAttrs_list PySem.F.slot_list_append PySem.F.type_list_append fT (aZ hN hv hd hcd) (bE he cL hs) rfl (hX hs) hline hs rfl) rfl) ?_
 rintro D' σ H ⟨G₀,G,ρ,E,S,hx,hr⟩
 unfold lL at hr
 cases q:ρ[i]? with
 | none=>rw [q] at hr;exact hr.elim
 | some sl=>
  rw [q] at hr
  cases sl with
  | no=>exact hr.elim
  | sh d=>exact hr.elim
  | dc d=>exact hr.elim
  | sd d=>exact hr.elim
  | rk _ _=>exact hr.elim
  | ow xs=>
   obtain⟨a,vs,h1,h2,h3,h4⟩:=S.sl.ow q
   refine⟨.ref a,h1, .inl ⟨rfl,vs,SqL.of h3⟩, ?_⟩
   refine dB S hx hr fun v d G1 H1 st r k=> ?_
   obtain⟨g1,h1'⟩:=cR st h2 h3
   have k':OKo X ad G₀ (if xs.length<LIM then .nx (ρ.set i (.ow (xs++[d]))) else .rt .bad) D' E:=k
   by_cases hc:xs.length<LIM
   ·rw [if_pos hc] at k'
    have r4:=h4.mono st.sg
    refine⟨a,vs,v,rfl,rfl,h1', ?_,k' σ G1 _ ((S.step st).upd q h1 g1 (r4.append (aF.cons r aF.nil)))⟩
    rw [h4.length]
    exact bg hc (by decide)
   ·rw [if_neg hc] at k'
    exact k'.elim
noncomputable def aO5 (K:PySem.W.Frag):V->List V->Hp->VK->Prop:=fun x vs H Q=> ∃ l b xs zs,x= .ref l/\vs=[.ref b]/\H l=some (.lst xs)/\SqL K H b zs/\xs.length+zs.length<=sizeLine/\Q .non (upd H l (.lst (xs++zs)))
theorem aIr:MtM X "list.extend" (aO5 X.K):=by
 intro pins s σ H x vs v us Q I rx rv h
 obtain⟨l,b,xs,zs,rfl,rfl,hH,hB,hz,q⟩:=h
 cases rx
 obtain⟨u,rfl,ru⟩:=rv.one
 cases ru
 obtain⟨z,its,n,r,hl,e⟩:=I.lstM hH
 obtain⟨its2,r2,⟨⟨cls2,dd2,data2,sl2⟩,n2,e2,hc2,hdd2,hd2⟩,_⟩:=I.list hB
 simp only at hc2 hd2 hdd2
 subst hc2 hd2
 have hl2:=r2.length
 have hsz:its.toArray.size+its2.toArray.size<=sizeLine:=by rw [aw,aw];omega
 have hlong: ¬ (!its.toArray.isEmpty&&Builtin.List.listTooLong (its.toArray.size+its2.toArray.size))=true:=by
  rw [pK hsz,Bool.and_false]
  exact bf
 refine call_meets F.slot_list_extend ⟨_,e,rfl⟩ F.entry_list_extend (F.args_list_extend_2 _ _)
  (l9 l its.toArray n b its2.toArray n2 dd2 sl2 hlong (by rw [aw];omega) (by omega)) ⟨e,e2, ?_⟩
 refine⟨.non,_,I.lset (its':=its++its2) hH e (by simp) (r.append r2) ?_,rfl,q⟩
 rw [bo]
 omega
theorem aIs {i:Nat} {x:Str} {p ap cp:Pos} (hN:X.N[i]? =some x) (hv:Vis X.env.scope x) (hd:(x==("__debug__":Str))=false) (hcd:(x==("__classdict__":Str))=false) (he:ME X ad e f) (hs:starEach [e] X.env=(false,eval e X.env)::starEach [] X.env)
  (hline:(ap.endLine==cp.line)=true):MS X ad Z (.Expr (.Call (.Attribute (.Name x p) "extend" ap) [e] [] cp) pos) (aHx i f):=by
 refine PS.imp (fH (aCj (T:="list") PySem.F.plainAttrs_list PySem.F.slot_list_extend PySem.F.type_list_extend aIr (aZ hN hv hd hcd) (bE he cL hs) rfl (hX hs) hline hs rfl) rfl) ?_
 rintro D' σ H ⟨G₀,G,ρ,E,S,hx,hr⟩
 unfold aHx at hr
 cases q:ρ[i]? with
 | none=>rw [q] at hr;exact hr.elim
 | some sl=>
  rw [q] at hr
  cases sl with
  | no=>exact hr.elim
  | sh d=>exact hr.elim
  | dc d=>exact hr.elim
  | sd d=>exact hr.elim
  | rk _ _=>exact hr.elim
  | ow xs=>
   obtain⟨a,vs,h1,h2,h3,h4⟩:=S.sl.ow q
   refine⟨.ref a,h1, .inl ⟨rfl,vs,SqL.of h3⟩, ?_⟩
   refine dB S hx hr fun v d G1 H1 st r k=> ?_
   obtain⟨g1,h1'⟩:=cR st h2 h3
   cases d<;>try exact az k
   rename_i ys
   have k':OKo X ad G₀ (if xs.length+ys.length<=LIM then .nx (ρ.set i (.ow (xs++ys))) else .rt .bad) D' E:=k
   by_cases hc:xs.length+ys.length<=LIM
   ·rw [if_pos hc] at k'
    have r4:=h4.mono st.sg
    unfold Rep at r
    obtain⟨b,ws,rfl,hq,rq⟩:=r
    refine⟨a,b,vs,ws,rfl,rfl,h1',st.gh.seq hq, ?_,k' σ G1 _ ((S.step st).upd q h1 g1 (r4.append rq))⟩
    rw [h4.length,rq.length]
    exact Nat.le_trans hc (by decide)
   ·rw [if_neg hc] at k'
    exact k'.elim
structure ItG (X:Cx) (ad:Ad) (J:It) (G:Hp) (ds:List D):Prop where
 go: ∀ (i:Nat) (G1 H1:Hp) (d:D),Same G G1->Same G1 H1->ds[i]? =some d->J.go i H1/\ ∀ x H2,J.yld i H1 x H2-> ∃ G2,Step G1 H1 G2 H2/\Rep X.K ad G2 d x
 stop: ∀ (G1 H1:Hp),Same G G1->Same G1 H1->J.stop ds.length H1
def IGK (X:Cx) (ad:Ad) (G H:Hp) (r:R) (W:It->Hp->Prop) (E:Nat->Hp->Prop):Prop:=match r with
 | .ok d=> ∃ ds,items d=some ds/\ ∀ J G' H',Step G H G' H'->ItG X ad J G' ds->W J H'
 | .ow xs=> ∀ J G' H',Step G H G' H'->ItG X ad J G' xs->W J H'
 | .ex c=> ∀ G' H',Step G H G' H'->E c H'
 | .bad=>False
noncomputable def tIG (X:Cx) (ad:Ad) (f:F):TI:=fun σ H W=> ∃ G ρ E,Same G H/\SL X.K ad G H ρ σ/\XP X ad σ E/\IGK X ad G H (f ρ) W E
abbrev MIG (X:Cx) (ad:Ad) (tg e:Expr) (f:F):Prop:=PI X tg e (tIG X ad f)
theorem aDq {a:Addr} {vs:List V} {ds:List D} (hq:SqT X.K G a vs) (r:aF X.K ad G ds vs):ItG X ad (Itt X.K a) G ds:=by
 refine⟨fun i G1 H1 d s1 s2 e=> ?_,fun G1 H1 s1 s2=>⟨vs,s2.seqT (s1.seqT hq),by rw [r.length];exact aj _⟩⟩
 obtain⟨v,e1,r1⟩:=r.get e
 refine⟨⟨vs,v,s2.seqT (s1.seqT hq),e1⟩, ?_⟩
 rintro x H2 ⟨rfl,y⟩
 have:=y vs (s2.seqT (s1.seqT hq))
 rw [e1] at this
 cases this
 exact⟨G1,Step.refl s2,r1.mono s1⟩
theorem aDr {a:Addr} {vs:List V} {ds:List D} (hq:SqL X.K G a vs) (r:aF X.K ad G ds vs):ItG X ad (Itl X.K a) G ds:=by
 refine⟨fun i G1 H1 d s1 s2 e=> ?_,fun G1 H1 s1 s2=>⟨vs,s2.seq (s1.seq hq),by rw [r.length];exact aj _⟩⟩
 obtain⟨v,e1,r1⟩:=r.get e
 refine⟨⟨vs,v,s2.seq (s1.seq hq),e1⟩, ?_⟩
 rintro x H2 ⟨rfl,y⟩
 have:=y vs (s2.seq (s1.seq hq))
 rw [e1] at this
 cases this
 exact⟨G1,Step.refl s2,r1.mono s1⟩
theorem aDs {lo:Int} {n:Nat}:ItG X ad (Itr lo n) G ((List.range n).map fun(i:Nat)=>D.int (lo+(i:Int))):=by
 refine⟨fun i G1 H1 d s1 s2 e=> ?_,fun G1 H1 s1 s2=>by simp [Itr]⟩
 rw [List.getElem?_map] at e
 cases q:(List.range n)[i]? with
 | none=>rw [q] at e;cases e
 | some j=>
  rw [q] at e
  obtain⟨hi,hj⟩:=ax.mp q
  rw [List.length_range] at hi
  rw [List.getElem_range] at hj
  subst hj
  cases e
  refine⟨hi, ?_⟩
  rintro x H2 ⟨rfl,rfl⟩
  exact⟨G1,Step.refl s2,aQ⟩
theorem kX {tg a:Expr} {f:F} (ha:ME X ad a f):MIG X ad tg a f:=by
 intro pins s σ H W I ⟨G,ρ,E,hG,hS,hx,hr⟩
 have key: ∀ (d:D) (ds:List D),items d=some ds->(∀ J G' H',Step G H G' H'->ItG X ad J G' ds->W J H')-> ∀ u s1 v H1 G1,Inv X pins σ H1 s1->aP v u->Step G H G1 H1->Rep X.K ad G1 d v->wpAny (model X.prog X.w) X.A (pyIter u) (PIE X pins σ tg W) X.xe s1:=by
  intro d ds e hw u s1 v H1 G1 I1 r1 st q
  obtain⟨p,vs,rfl,hq,rq⟩:=iR e q
  cases (show u=Value.ref p from r1)
  rcases hq with hq | hq
  ·obtain⟨its,rv,pt,hz⟩:=I1.tuple (st.gh.seqT hq)
   refine wpAny_pyIter_tuple (show s1.heap.IsTuple p its.toArray from pt) ?_
   refine⟨s1.heap.objs.size,[s1.heap.objs.size],_,_,H1,rfl,I1.kept (t':=s1.toks) fun b o e=>af _ e,jO p _,⟨_,ag _ rfl,rfl,rfl⟩,fun b hb=> ?_,hw _ G1 H1 st (aDq hq rq)⟩
   have e:b=s1.heap.objs.size:=by simpa using hb
   subst e
   exact I1.fpOk (aj _) (I1.hok.fresh (aj _))
  ·obtain⟨its,rv,pt,hz⟩:=I1.list (st.gh.seq hq)
   refine wpAny_pyIter_list pt.isList ?_
   refine⟨s1.heap.objs.size,[s1.heap.objs.size],_,_,H1,rfl,I1.kept (t':=s1.toks) fun b o e=>af _ e,lO p _,⟨_,ag _ rfl,rfl,rfl⟩,fun b hb=> ?_,hw _ G1 H1 st (aDr hq rq)⟩
   have e:b=s1.heap.objs.size:=by simpa using hb
   subst e
   exact I1.fpOk (aj _) (I1.hok.fresh (aj _))
 cases e:f ρ with
 | ok d=>
  rw [e] at hr
  obtain⟨ds,e2,hw⟩:=hr
  exact L2.thn (ha pins s σ H (fun v H1=> ∃ G1,Step G H G1 H1/\Rep X.K ad G1 d v) I ⟨G,ρ,E,hG,hS,hx,by rw [e];exact fun v G1 H1 st q=>⟨G1,st,q⟩⟩) fun u s1 ⟨v,H1,I1,r1,G1,st,q⟩=>key d ds e2 hw u s1 v H1 G1 I1 r1 st q
 | ow l=>
  rw [e] at hr
  exact L2.thn (ha pins s σ H (fun v H1=> ∃ G1,Step G H G1 H1/\Rep X.K ad G1 (.lst l) v) I ⟨G,ρ,E,hG,hS,hx,by rw [e];exact fun p vs G1 H1 st n m e' q=>bF st n m e' q⟩) fun u s1 ⟨v,H1,I1,r1,G1,st,q⟩=>key (.lst l) l rfl hr u s1 v H1 G1 I1 r1 st q
 | ex c=>
  rw [e] at hr
  exact L2.thn (ha pins s σ H (fun v H1=>False) I ⟨G,ρ,E,hG,hS,hx,by rw [e];exact hr⟩) fun u s1 ⟨v,H1,I1,r1,q⟩=>q.elim
 | bad=>
  rw [e] at hr
  exact az hr
theorem uO {tg a:Expr} {f:F} {p:Pos} (hg:L2.Gl X "range") (hm:X.mg "range"=none) (ha:ME X ad a f) (hs:starEach [a] X.env=(false,eval a X.env)::starEach [] X.env):MIG X ad tg (.Call (.Name "range" p) [a] [] pos) (bN f):=by
 intro pins s σ H W I ⟨G,ρ,E,hG,hS,hx,hr⟩
 refine lP (ta:=iJ (tE X ad f) xP) hg hm (bE ha cL hs) hs pins s σ H W I ?_
 show tE X ad f σ H fun v H1=> ∃ j:Int,[v]=[.int j]/\ -(2 ^ 62)<=j/\j<2 ^ 62/\W (Itr 0 j.toNat) H1
 refine⟨G,ρ,E,hG,hS,hx, ?_⟩
 unfold bN at hr
 cases e:f ρ with
 | ok d=>
  rw [e] at hr
  cases d<;>try exact az hr
  rename_i i
  have k':IGK X ad G H (if -100000<=i/\i<=100000 then .ok (.lst (nY i.toNat)) else .bad) W E:=hr
  by_cases hc: -100000<=i/\i<=100000
  ·rw [if_pos hc] at k'
   obtain⟨ds,e,hw⟩:=k'
   cases e
   intro v G1 H1 st r
   unfold Rep at r;subst r
   refine⟨i,rfl,by omega,by omega,hw _ G1 H1 st ?_⟩
   rw [uL]
   exact aDs
  ·rw [if_neg hc] at k'
   exact k'.elim
 | ow l=>rw [e] at hr;exact az hr
 | ex c=>rw [e] at hr;exact hr
 | bad=>rw [e] at hr;exact hr
end
noncomputable def gIs:List Nat->TGs
 | []=>aK7
 | i::is=>aB7 (iE i) (gIs is)
noncomputable def yK:List Nat->List V->St->St
 | i::is,v::vs,σ=>yK is vs (σ.set i (some v))
 | _,_,σ=>σ
theorem p6: ∀ {is:List Nat} {vs:List V} {σ:St} {H:Hp} {Q:St->Hp->Prop},vs.length=is.length->Q (yK is vs σ) H->gIs is vs σ H Q
 | [],[],_,_,_,_,h=>⟨rfl,h⟩
 | i::is,v::vs,σ,H,Q,e,h=>⟨v,vs,rfl,p6 (is:=is) (vs:=vs) (by simpa using e) h⟩
 | [],_::_,_,_,_,e,_=>by simp at e
 | _::_,[],_,_,_,e,_=>by simp at e
noncomputable def gTs (K:PySem.W.Frag) (k:Nat) (is:List Nat):TG:=match k,is with
 | 0,[i]=>iE i
 | k,is=>aGx K is.length (gIs is)
def aKq (X:Cx) (x:Str) (i:Nat):Prop:=X.N[i]? =some x/\Loc X.env.scope x/\(X.fn x=true\/X.env.scope.names.lookup x=some .local)
inductive NmsOk (X:Cx):List Str->List Nat->Prop
 | nil:NmsOk X [] []
 | cons {x:Str} {i:Nat} {xs:List Str} {is:List Nat}:aKq X x i->NmsOk X xs is->NmsOk X (x::xs) (i::is)
section
variable {X:Cx} {ad:Ad} {Z:(St->Nat->Hp->Prop)->Prop} {pins:List (Addr×Obj)} {s:Shared} {σ:St} {H G G₀:Hp} {ρ:Rho} {D':Ends} {E:St->Nat->Hp->Prop} {pos pos':Pos} {e it tg:Expr} {f:F} {g h:FS} {st:Stmt} {body:List Stmt}
theorem NmsOk.len: ∀ {xs:List Str} {is:List Nat},NmsOk X xs is->is.length=xs.length
 | _,_, .nil=>rfl
 | _,_, .cons _ h=>by simp [NmsOk.len h]
theorem uP (hN:X.N.Nodup): ∀ {es:List Expr} {xs:List Str} {is:List Nat},dO (fun(e:Expr)=>match e with | .Name x _=>some x | _=>none) es=some xs->NmsOk X xs is->PGs X es (gIs is)
 | [],xs,is,e,h=>by
  cases e
  cases h
  exact sQ
 | a::es,xs,is,e,h=>by
  unfold dO at e
  cases a<;>try (cases e)
  rename_i x px
  simp only at e
  obtain⟨r,e1,e2⟩:=zMd e
  subst e2
  cases h with
  | cons h1 h2=>exact pC (iF hN h1.1 h1.2.1 h1.2.2) (uP hN e1 h2) rfl
theorem gO: ∀ {es:List Expr} {xs:List Str},dO (fun(e:Expr)=>match e with | .Name x _=>some x | _=>none) es=some xs->(assignEach es X.env).length=xs.length/\(assignEach es X.env).findIdx? (·.1)=none
 | [],xs,e=>by cases e;exact⟨rfl,rfl⟩
 | a::es,xs,e=>by
  unfold dO at e
  cases a<;>try (cases e)
  rename_i x px
  simp only at e
  obtain⟨r,e1,e2⟩:=zMd e
  subst e2
  obtain⟨h1,h2⟩:=gO e1
  have q:assignEach (.Name x px::es) X.env=(false,assign (.Name x px) X.env)::assignEach es X.env:=rfl
  rw [q]
  refine⟨by simp [h1], ?_⟩
  rw [List.findIdx?_cons]
  simp [h2]
theorem aDt {xs:List Str} {k:Nat} {is:List Nat} (hc:X.calm=true) (hN:X.N.Nodup) (e:bR tg=some (xs,k)) (h:NmsOk X xs is):PG X tg (gTs X.K k is)/\(k=0/\is.length=1\/k≠0/\k=is.length):=by
 cases tg<;>try (cases e)
 ·rename_i x px
  cases h with
  | cons h1 h2=>
   cases h2
   exact⟨iF hN h1.1 h1.2.1 h1.2.2, .inl ⟨rfl,rfl⟩⟩
 ·rename_i es j px
  unfold bR at e
  obtain⟨ys,e1,e2⟩:=zBd e
  by_cases hl:2<=ys.length
  ·rw [if_pos hl] at e2
   cases e2
   obtain⟨q1,q2⟩:=gO (X:=X) e1
   have hk:=h.len
   refine⟨?_, .inr ⟨by omega,hk.symm⟩⟩
   have P:=aAq (pos:=px) (k:=j) (n:=is.length) hc (uP hN e1 h) (by rw [q1,hk]) q2
   have:gTs X.K xs.length is=aGx X.K is.length (gIs is):=by
    unfold gTs
    cases is with
    | nil=>simp at hk;omega
    | cons i is=>
     cases hx:xs.length with
     | zero=>omega
     | succ n=>rfl
   rw [this]
   exact P
  ·rw [if_neg hl] at e2
   cases e2
theorem SS.setN: ∀ {is:List Nat} {ds:List D} {vs:List V} {ρ:Rho} {σ:St},SS X ad G₀ G H ρ σ->aF X.K ad G ds vs->SS X ad G₀ G H (SK.setN is ds ρ) (yK is vs σ)
 | [],ds,vs,ρ,σ,S,r=>by
  have e1:SK.setN [] ds ρ=ρ:=by cases ds<;>rfl
  have e2:yK [] vs σ=σ:=by cases vs<;>rfl
  rw [e1,e2]
  exact S
 | i::is,[],vs,ρ,σ,S,r=>by
  unfold aF at r
  subst r
  exact S
 | i::is,d::ds,vs,ρ,σ,S,r=>by
  unfold aF at r
  obtain⟨v,vr,rfl,r1,r2⟩:=r
  exact SS.setN (is:=is) (ds:=ds) (vs:=vr) (ρ:=ρ.set i (.sh d)) (σ:=σ.set i (some v)) (S.set r1) r2
theorem aBa {k:Nat} {is:List Nat} {d:D} {v:V} {ρ1:Rho} {Q:St->Hp->Prop} (hk:k=0/\is.length=1\/k≠0/\k=is.length) (e:tN is (k==0) d ρ=some ρ1) (S:SS X ad G₀ G H ρ σ) (r:Rep X.K ad G d v) (q: ∀ σ1,SS X ad G₀ G H ρ1 σ1->Q σ1 H):gTs X.K k is v σ H Q:=by
 rcases hk with ⟨rfl,h1⟩ | ⟨h1,h2⟩
 ·obtain⟨i,rfl⟩:=List.length_eq_one_iff.mp h1
  cases e
  exact q _ (S.set r)
 ·have hb:(k==0)=false:=by simpa using h1
  rw [hb] at e
  have e0:tN is false d ρ=match(generalizing:=false) d with | .tup ds=>if ds.length=is.length then some (SK.setN is ds ρ) else none | _=>none:=by
   cases is with
   | nil=>rfl
   | cons _ _=>rfl
  have e':=e0.symm.trans e
  have hg:gTs X.K k is=aGx X.K is.length (gIs is):=by
   unfold gTs
   cases k with
   | zero=>exact absurd rfl h1
   | succ k=>rfl
  rw [hg]
  cases d<;>try (cases e')
  rename_i ds
  simp only at e'
  by_cases hl:ds.length=is.length
  ·rw [if_pos hl] at e'
   cases e'
   unfold Rep at r
   obtain⟨a,vs,rfl,hq,rq⟩:=r
   exact⟨a,vs,rfl,S.st.gh.seqT hq,by rw [rq.length,hl],p6 (by rw [rq.length,hl]) (q _ (S.setN rq))⟩
  ·rw [if_neg hl] at e'
   cases e'
theorem aDu {α:Type} {ds:List α} {i:Nat} {d:α} (e:ds[i]? =some d):ds.drop i=d::ds.drop (i+1):=by
 obtain⟨h,rfl⟩:=ax.mp e
 exact List.drop_eq_getElem_cons h
theorem p7 {J:It} {G' H':Hp} {ds:List D} {k:Nat} {is:List Nat} (hk:k=0/\is.length=1\/k≠0/\k=is.length) (S:SS X ad G₀ G' H' ρ σ) (hx:XA X ad Z E) (it:ItG X ad J G' ds) (hr:OKo X ad G₀ (jJ (tN is (k==0)) g ds ρ) D' E):
  ∃ W:Nat->Nat->St->Hp->Prop,(∃ m,W 0 m σ H')/\ ∀ i m σ H,W i m σ H->
   (J.stop i H/\D'.nx σ H)\/(J.go i H/\ ∃ N:St->Hp->Prop,(∀ σ' H',N σ' H'-> ∃ m',m'<m/\W (i+1) m' σ' H')/\ ∀ x H',J.yld i H x H'->gTs X.K k is x σ H' fun σ2 H2=>tS X ad Z g { D' with nx:=N,ct:=N,bk:=D'.nx } σ2 H2):=by
 refine⟨fun i m σ H=>m=ds.length - i/\i<=ds.length/\ ∃ G ρ,SS X ad G₀ G H ρ σ/\Same G' G/\OKo X ad G₀ (jJ (tN is (k==0)) g (ds.drop i) ρ) D' E,⟨_,rfl,bu _,G',ρ,S,Same.refl _,hr⟩, ?_⟩
 rintro i m σ1 H1 ⟨rfl,hi,G1,ρ1,S1,sm,hr1⟩
 cases q:ds[i]? with
 | none=>
  have hl:ds.length<=i:=List.getElem?_eq_none_iff.mp q
  have:i=ds.length:=by omega
  subst this
  refine .inl ⟨it.stop G1 H1 sm S1.st.gh, ?_⟩
  rw [List.drop_length] at hr1
  exact hr1 σ1 G1 H1 S1
 | some d=>
  have hlt:i<ds.length:=(ax.mp q).1
  obtain⟨go,yl⟩:=it.go i G1 H1 d sm S1.st.gh q
  refine .inr ⟨go,fun σ' H'=> ∃ G ρ,SS X ad G₀ G H' ρ σ'/\Same G' G/\OKo X ad G₀ (jJ (tN is (k==0)) g (ds.drop (i+1)) ρ) D' E,fun σ' H' ⟨Ga,ρa,Sa,sa,ra⟩=>⟨_,by omega,rfl,hlt,Ga,ρa,Sa,sa,ra⟩,fun x H2 y=> ?_⟩
  obtain⟨G2,st,r2⟩:=yl x H2 y
  rw [aDu q] at hr1
  unfold jJ at hr1
  cases et:tN is (k==0) d ρ1 with
  | none=>rw [et] at hr1;exact hr1.elim
  | some ρ2=>
   rw [et] at hr1
   have S2:=S1.step st
   refine aBa hk et S2 r2 fun σ2 S3=> ?_
   refine⟨G2,G2,ρ2,E,S3.here,hx, ?_⟩
   have hr2:OKo X ad G₀ (match g ρ2 with
    | .nx ρ2=>jJ (tN is (k==0)) g (ds.drop (i+1)) ρ2
    | .ct ρ2=>jJ (tN is (k==0)) g (ds.drop (i+1)) ρ2
    | .bk ρ2=> .nx ρ2
    | .rt r=> .rt r
    | .ex c ρ2=> .ex c ρ2) D' E:=hr1
   cases eo:g ρ2 with
   | nx ρ3=>
    rw [eo] at hr2
    exact fun σ G H S4=>⟨G,ρ3,S4.up S3.st,(sm.trans st.sg).trans S4.st.sg,hr2⟩
   | ct ρ3=>
    rw [eo] at hr2
    exact fun σ G H S4=>⟨G,ρ3,S4.up S3.st,(sm.trans st.sg).trans S4.st.sg,hr2⟩
   | bk ρ3=>
    rw [eo] at hr2
    exact fun σ G H S4=>hr2 σ G H (S4.up S3.st)
   | ex c ρ3=>
    rw [eo] at hr2
    exact fun σ G H S4=>hr2 σ G H (S4.up S3.st)
   | rt r=>
    rw [eo] at hr2
    have:=hr2.rebase S3.st
    cases r<;>exact this
theorem aIt {k:Nat} {is:List Nat} {xs:List Str} (hp:PassesOwn (model X.prog X.w) X.A X.env X.xe) (hc:X.calm=true) (hN:X.N.Nodup) (hi:MIG X ad tg it f) (ht:bR tg=some (xs,k)) (hn:NmsOk X xs is) (hb:MSs X ad Z body g)
  (hs: ∀ x,foldedSetIterable it X.env x=pure x):MS X ad Z (.For tg it body [] pos) (tP is (k==0) f g):=by
 obtain⟨P,hk⟩:=aDt hc hN ht hn
 refine PS.imp (aG1 hp hc hi P hb hs) ?_
 rintro D' σ H ⟨G₀,G,ρ,E,S,hx,hr⟩
 refine⟨G,ρ,E σ,S.st.gh,S.sl,hx.1 σ, ?_⟩
 unfold tP fQ at hr
 cases e:f ρ with
 | ok d=>
  rw [e] at hr
  have hr':OKo X ad G₀ (match items d with | some ds=>jJ (tN is (k==0)) g ds ρ | none=> .rt .bad) D' E:=hr
  cases e2:items d with
  | none=>rw [e2] at hr';exact hr'.elim
  | some ds=>
   rw [e2] at hr'
   exact⟨ds,e2,fun J G' H' st it=>p7 hk (S.step st) hx it hr'⟩
 | ow xs=>
  rw [e] at hr
  exact fun J G' H' st it=>p7 hk (S.step st) hx it hr
 | ex c=>rw [e] at hr;exact fun G1 H1 st=>hr σ G1 H1 (S.step st)
 | bad=>rw [e] at hr;exact hr
theorem aIu {st:Stmt}:MS X ad Z st aKn:=fun _ _ _ _ _ _ ⟨_,_,_,_,_,_,hr⟩=>az hr
theorem aIv {i:Nat} {x:Str} {op:Operator} (hN:X.N.Nodup) (hi:aKq X x i) (he:ME X ad e f) (ho:op= .Add\/op= .Sub):MS X ad Z (.AugAssign (.Name x pos') op e pos) (aKm i op f):=by
 rcases ho with rfl | rfl
 ·refine PS.imp (aAr hN hi.1 hi.2.1 he aAs hi.2.2) ?_
  rintro D' σ H ⟨G₀,G,ρ,E,S,hx,hr⟩
  unfold aKm at hr
  cases q:ρ[i]? with
  | none=>rw [q] at hr;exact hr.elim
  | some sl=>
   rw [q] at hr
   cases sl with
   | no=>exact hr.elim
   | ow _=>exact hr.elim
   | dc _=>exact hr.elim
   | sd _=>exact hr.elim
   | rk _ _=>exact hr.elim
   | sh d=>
    cases d<;>try exact hr.elim
    rename_i a
    obtain⟨v,h1,h2⟩:=S.sl.sh q
    unfold Rep at h2;subst h2
    refine⟨_,h1,dB S hx hr fun v d G1 H1 st r k=> ?_⟩
    cases d<;>try exact az k
    unfold Rep at r;subst r
    exact⟨a,_,rfl,rfl,k _ G1 H1 ((S.step st).set aQ)⟩
 ·refine PS.imp (aAr hN hi.1 hi.2.1 he aG0 hi.2.2) ?_
  rintro D' σ H ⟨G₀,G,ρ,E,S,hx,hr⟩
  unfold aKm at hr
  cases q:ρ[i]? with
  | none=>rw [q] at hr;exact hr.elim
  | some sl=>
   rw [q] at hr
   cases sl with
   | no=>exact hr.elim
   | ow _=>exact hr.elim
   | dc _=>exact hr.elim
   | sd _=>exact hr.elim
   | rk _ _=>exact hr.elim
   | sh d=>
    cases d<;>try exact hr.elim
    rename_i a
    obtain⟨v,h1,h2⟩:=S.sl.sh q
    unfold Rep at h2;subst h2
    refine⟨_,h1,dB S hx hr fun v d G1 H1 st r k=> ?_⟩
    cases d<;>try exact az k
    unfold Rep at r;subst r
    exact⟨a,_,rfl,rfl,k _ G1 H1 ((S.step st).set aQ)⟩
theorem yL:aNf X (aLj X.K):=by
 intro pins s σ H x y v u Q I rx ry h
 obtain⟨p,xs,i,z,rfl,rfl,hq,he,q⟩:=h
 cases rx
 obtain⟨t,rfl⟩:=ry
 obtain⟨its,r,pl,hz⟩:=I.list hq
 obtain⟨j,h1,h2,h3,h4,h5⟩:=nT he
 obtain⟨w,ew,rw'⟩:=r.get h2
 have hl:=r.length
 have hn:=jQ
 have fin:EP X pins σ Q w s:=⟨z,H,I,rw',q⟩
 by_cases h0:0<=i
 ·have hj:i.toNat=j:=by
   rw [seqIndex_of h0 h5] at h1
   exact Option.some.inj h1
  exact wpAny_getItem_list pl.isList h0 (by omega) (by rw [hj];simpa using ew) fin
 ·have hj:(i+(its.toArray.size:Int)).toNat=j:=by
   rw [seqIndex_neg (by omega) h4] at h1
   rw [aw, <-hl]
   exact Option.some.inj h1
  exact wpAny_getItem_list_neg pl.isList (by omega) (by rw [aw]<;>omega) (by omega) (by rw [hj];simpa using ew) fin
theorem aDv {i:Nat} {x:Str} {p tp:Pos} {kx:Expr} {fk:F} (hN:X.N[i]? =some x) (hv:Vis X.env.scope x) (hd:(x==("__debug__":Str))=false) (hcd:(x==("__classdict__":Str))=false) (he:ME X ad e f) (hk:ME X ad kx fk)
  (ha: ∀ ov iv new,augStore kx ov iv new=(do holding [new,ov,iv] (setItem ov iv new);release [new,ov,iv] [];pure .next)):
  MS X ad Z (.AugAssign (.Subscript (.Name x p) kx tp) .Add e pos) (xX i fk f):=by
 refine PS.imp (aB9 (aZ hN hv hd hcd) hk yL he aAs pJ ha) ?_
 rintro D' σ H ⟨G₀,G,ρ,E,S,hx,hr⟩
 unfold xX at hr
 cases q:ρ[i]? with
 | none=>rw [q] at hr;exact hr.elim
 | some sl=>
  rw [q] at hr
  cases sl with
  | no=>exact hr.elim
  | sh d=>exact hr.elim
  | dc d=>exact hr.elim
  | sd d=>exact hr.elim
  | rk _ _=>exact hr.elim
  | ow xs=>
   obtain⟨a,vs,h1,h2,h3,h4⟩:=S.sl.ow q
   refine⟨.ref a,h1, ?_⟩
   refine dB S hx hr fun v2 y G2 H2 st2 r2 k2=> ?_
   obtain⟨g2,h2'⟩:=cR st2 h2 h3
   cases y<;>try exact az k2
   rename_i j
   unfold Rep at r2;subst r2
   have k':OKo X ad G₀ (match ixD xs.length j with | some m=>(match xs[m]? with | some (.int a)=>fQ ρ (f ρ) fun d=>(match d with | .int b=> .nx (ρ.set i (.ow (xs.set m (.int (a+b))))) | _=> .rt .bad) | _=> .rt .bad) | none=> .rt .bad) D' E:=k2
   cases q2:ixD xs.length j with
   | none=>rw [q2] at k';exact k'.elim
   | some m=>
    rw [q2] at k'
    dsimp only at k'
    cases q3:xs[m]? with
    | none=>rw [q3] at k';exact k'.elim
    | some d0=>
     rw [q3] at k'
     cases d0<;>try exact az k'
     rename_i a0
     dsimp only at k'
     have r4:=h4.mono st2.sg
     obtain⟨v0,e0,r0⟩:=r4.get q3
     unfold Rep at r0;subst r0
     have hat:atI vs j=some (.int a0):=by
      unfold atI
      rw [h4.length, <-pU,q2]
      exact e0
     refine⟨a,vs,j, .int a0,rfl,rfl,SqL.of h2',hat, ?_⟩
     refine dB (S.step st2) hx k' fun v3 d3 G3 H3 st3 r3 k3=> ?_
     obtain⟨g3,h3'⟩:=cR st3 g2 h2'
     cases d3<;>try exact az k3
     rename_i b0
     unfold Rep at r3;subst r3
     refine⟨a0,b0,rfl,rfl,a,vs,j,m,rfl,rfl,h3',by rw [h4.length, <-pU];exact q2, ?_⟩
     exact k3 σ G3 _ (((S.step st2).step st3).upd q h1 g3 (aF.set aQ m (r4.mono st3.sg)))
end
section
variable {X:Cx} {ad:Ad} {pins:List (Addr×Obj)} {s s3:Shared} {σ σ2:St} {H G G₀ H3 H':Hp} {ρ:Rho} {Q:VK} {D':Ends} {E:St->Nat->Hp->Prop} {pos pos' cpos:Pos} {elt it tg:Expr} {ifs:List Expr} {f fi fe:F} {fc:Option F} {sc:Scope} {k:Nat} {cs:List Nat} {xs:List Str}
theorem oJ {s2:Shared} {h':Heap} (I3:Inv X pins σ H3 s3) (I2:Inv X pins σ2 H' s2) (hf:H' s3.heap.objs.size=none) (sb:Heap.SameBut s3.heap.objs.size s2.heap h'):Inv X pins σ2 H' { s2 with heap:=h' }:=by
 refine I2.turned (t':=s2.toks) (it:=s3.heap.objs.size) (fun b o ne e=>(sb.2 b ne).trans e) hf ?_ (.inr I3.sz) (fun x c h z=> ?_) fun p hp z=> ?_
 ·intro z
  obtain⟨m,hn,_⟩:=I3.loc
  obtain⟨o,_,_,ho,_⟩:=hn
  exact absurd (ah ho) (by rw [<-z];exact Nat.lt_irrefl _)
 ·obtain⟨v,o,ho,_⟩:=I3.cell x c h
  exact absurd (ah ho) (by rw [z];exact Nat.lt_irrefl _)
 ·obtain⟨ho,_⟩:=I3.pin p hp
  exact absurd (ah ho) (by rw [z];exact Nat.lt_irrefl _)
theorem yM {h h':Heap} {a C:Addr} {m:Str->Option Value} (n:h.Ns C m) (sb:Heap.SameBut a h h') (ne:C≠a):h'.Ns C m:=by
 obtain⟨o,es,ep,ho,r⟩:=n
 exact⟨o,es,ep,(sb.2 C ne).trans ho,r⟩
theorem aDw {C:Ctx} {i:Nat} {x:Str} (hN:X.N.Nodup) (hi:aKq X x i) (hc:X.calm=true) (S:CompSc X C sc xs cs) (hit:MI X ad tg it fi) (hset: ∀ a b c,it≠ .Set a b c) (hxs:xs.length=if k=0 then 1 else k)
  (hg: ∀ fp s3 H3 pins',PG (cX X (xs++aO sc) sc s3 H3 fp pins') tg (gTg X.K k)) (hts: ∀ fp s3 H3 pins',MTs (cX X (xs++aO sc) sc s3 H3 fp pins') ad ifs fc) (he: ∀ fp s3 H3 pins',ME (cX X (xs++aO sc) sc s3 H3 fp pins') ad elt fe)
  (hs:swapsWith (.ListComp elt [⟨tg,it,ifs,0⟩] sc cpos) (some (.Name x pos')) pos.line X.env=pure true):
  PS X (.Assign [.Name x pos'] (.ListComp elt [⟨tg,it,ifs,0⟩] sc cpos) pos) (aB8 (tE X ad (bO k cs fi fc fe)) (iE i)):=by
 intro pins s σ H D' I ⟨G,ρ,E,hG,hS,hx,hr⟩
 rw [exec_Assign_Name_used _ _ _ _ hs]
 have hcl:closureFor sc X.env=pure (iT X.env.cells sc.names []):=gM fun x hx=>by
  obtain⟨c,h⟩:=I.ok.has x (S.fre x hx)
  rw [h];rfl
 refine aa (wpAny_standAt (aa ?_))
 show wpAny _ X.A (do let _<-comprehension (.ListComp elt [⟨tg,it,ifs,0⟩] sc cpos) sc X.env _ (newList []) false (eval it X.env) (some (assign (.Name x pos') X.env))) _ _ s
 refine aa (wpAny_mono (wpAny_comprehension_free (use:=some (assign (.Name x pos') X.env)) (Q:=fun _ s'=>SP X pins D' .next s') rfl (aDg hset) hcl S.kind S.names ?_) (fun _ s' hq=>ae (ae hq)) fun _ _ e=>e)
 refine L2.thn (hit pins s σ H _ I ⟨G,ρ,E,hG,hS,hx,aIp (W:=fun J H2=> ∃ G2 ds all,Step G H G2 H2/\ItH X ad J G2 H2 ds/\bT (eI k (pM cs ρ) fc fe) ds=some all/\RK X.K ad G2 H2 (.ow all) (fun v H1=>iE i v σ H1 D'.nx) E) hr fun J G2 H2 ds all a b c d=>⟨G2,ds,all,a,b,c,d⟩⟩) fun v s1 h1=>
  L2.thn h1 fun itv s2 hz_=> ?_
 obtain⟨itA,fp,tn,J,H2,e,I2,T,st2,f2,G2,ds,all,sp,hit,hgo,hr2⟩:=hz_
 subst e
 obtain⟨σc,l1,l2,l3⟩:=jY (xs:=xs) (sc:=sc) (nt:=if k=0 then 1 else k) hxs S.N S.cs (fun x h=>mP h) (hS.step sp) I2.len
 refine mO (σc:=σc) hc I2 T st2 f2 hit hgo sp.gh S.kind S.cell S.fre S.frl l1 l2 rfl l3 (hg fp) (hts fp) (he fp) fun s3 s' H3 H' G' σ' D vs I3 f3 J' sp' hD gD hD' r'=> ?_
 obtain⟨m,hns,_⟩:=J'.loc
 have I4:Inv X pins σ H' s':=aA7 (fpO:=f3) I3 J' ⟨rfl,fun _ _=>rfl⟩
 show wpAny _ X.A (assign (.Name x pos') X.env (.ref D)) _ _ _
 refine wpAny_assign_Name (lN I4 hN hi.1 hi.2.1 (v:= .ref D) rfl (fun s'' I5 ⟨a,sb,ha⟩=> ?_) hi.2.2)
 have ne:s3.heap.objs.size≠a:=by
  rcases ha with rfl | ha
  ·intro z
   obtain⟨m',hn,_⟩:=I3.loc
   obtain⟨o,_,_,ho,_⟩:=hn
   exact absurd (ah ho) (by rw [<-z];exact Nat.lt_irrefl _)
  ·intro z
   obtain⟨v,o,ho,_⟩:=I3.cell x a ha
   exact absurd (ah ho) (by rw [<-z];exact Nat.lt_irrefl _)
 refine⟨m,yM hns sb ne,fun h' sb'=> ?_⟩
 exact⟨σ.set i (some (.ref D)),H',oJ I3 I5 J'.free sb',hr2 D vs G' H' sp' hD gD hD' r'⟩
end
section
variable {X:Cx} {ad:Ad} {Z:(St->Nat->Hp->Prop)->Prop} {e:Expr} {f:F}
end
open PySem.Calls Builtin Builtin.ObjectAttr Builtin.Getset_descriptor
section
variable {prog:Program} {w:World} {A:Around} {E:Value->Shared->Prop} {s:Shared} {K:Frag} {x C:Addr} {R:Result->Shared->Prop}
theorem mF.ty {M:Model} {h:Heap} (I:mF h x C):Looks M h (typeOf (.ref x)) (.ref C):=by
 obtain⟨o,vs,h1,h2,h3⟩:=I
 exact h2▸(Looks.ld h1).andThen .now
theorem aDx {tp:Value} (X:K.In s.heap) (I:mF s.heap x C) (hm:mroIn K C (.type "object")=some true) (h:R (.ok (.ret (.ref C))) s):
  codeAny (model prog w) A (.call (.builtin "getset_descriptor.__get__") ⟨[.builtin "object.__class__", .ref x,tp],[]⟩) R s:=by
 obtain⟨hh,g,dr,t,os⟩:=s
 have L0:=I.ty (M:=model prog w)
 have L1:=looks_mroIn (M:=model prog w) X hm
 refine codeAny_call_builtin KF.slot_gs.plain KF.entry_gs (KF.slot_gs.check _ _ _ _ _ _ _ _ KF.type_class (KF.args_gs _ _ _) ?_)
 unfold Builtin.«getset_descriptor.__get__» descrGet
 rw [dga_obj]
 refine aa (ae ?_)
 unfold descrGetter descrCheckInstance descrNameAndClass isInstance
 simp only [KF.owner_class]
 repeat lk
 refine⟨Code.quiet_builtin _ (by decide+kernel),codeAny_builtin KF.entry_class ?_⟩
 unfold Builtin.«object.__class__» shownTypeOf
 repeat lk
 exact h
theorem uQ {M:Model} {nameV:Value} {Q:Unit->Shared->Prop} (X:K.In s.heap) (I:mF s.heap x C) (hm:mroIn K C (.type "BaseException")=some true) (hq:Q () s):wpAny M A (checkBuiltinCall "BaseException.__getattribute__" ⟨[.ref x,nameV],[]⟩) Q E s:=by
 obtain⟨hh,g,dr,t,os⟩:=s
 have hk:builtinKind "BaseException.__getattribute__"=some .slot:=by decide+kernel
 have hsplit:splitId "BaseException.__getattribute__"=some ("BaseException","__getattribute__"):=by decide+kernel
 have L0:=I.ty (M:=M)
 have L1:=looks_mroIn (M:=M) X hm
 have ha:=F.args_bexc_ga (.ref x) nameV
 simp only [checkBuiltinCall,hk,hsplit]
 refine aa ?_
 unfold isInstance
 refine aa (L0.at (L1.at ?_))
 repeat (any_goals (first | assumption | wp_step))
theorem uR {tk:Tok} {Q:PySem.Fin->Shared->Prop} (X:K.In s.heap) (I:mF s.heap x C) (hm:mroIn K C (.type "object")=some true) (ha:findIn K (.ref C) "__class__"=some (some (.builtin "object.__class__"))) (hq:Q (.done (.ret (.ref C))) s):
  wpAny (model prog w) A (Builtin.«object.__getattribute__» ⟨[.ref x, .str "__class__" tk],[]⟩) Q E s:=by
 obtain⟨hh,g,d,t,os⟩:=s
 have hT5:(⟨hh,g,d,t,os⟩:Shared).TypeIs (.builtin "object.__class__") "getset_descriptor":=F.typeOf_object_class
 have f5:=F.typeOf_object_class
 have f6:=F.slot_gs_get.lookup
 have f7:=F.slot_gs_set.lookup
 have L0:=I.ty (M:=model prog w)
 have L1:=looks_findIn (M:=model prog w) X ha
 obtain⟨o,vs,hx,hc,hd⟩:=id I
 repeat (any_goals (first | assumption | (with_reducible refine wpAny_loadPart_at hx ?_;rw [hc]) | with_reducible refine L1.at ?_ | wp_step))
 refine aDx X I hm ?_
 repeat (any_goals (first | assumption | wp_step))
theorem uS {Q:Option Value->Shared->Prop} (X:K.In s.heap) (I:mF s.heap x C) (hm:mroIn K C (.type "object")=some true) (hb:mroIn K C (.type "BaseException")=some true) (ha:findIn K (.ref C) "__class__"=some (some (.builtin "object.__class__")))
  (hg:findIn K (.ref C) "__getattribute__"=some (some (.builtin "BaseException.__getattribute__"))) (hn:findIn K (.ref C) "__getattr__"=some none) (h:Q (some (.ref C)) { s with toks:=s.toks+1 }):
  wpAny (model prog w) A (getAttr? (.ref x) "__class__") Q E s:=by
 obtain⟨hh,g,d,t,os⟩:=s
 have L0:=I.ty (M:=model prog w)
 have L1:=looks_findIn (M:=model prog w) X hg
 have L2:=looks_findIn (M:=model prog w) X hn
 have f3:=PySem.F.excAttr_ValueError.ga.bind (.ref x)
 have hx2:(Value.builtin "BaseException.__getattribute__"==Value.builtin "object.__getattribute__")=false:=by decide+kernel
 have hx1:(onTheHeap (Value.ref C)&&Value.builtin "BaseException.__getattribute__"==Value.builtin "object.__getattribute__")=false:=by rw [hx2];rfl
 obtain⟨o,vs,hx,hc,hd⟩:=id I
 unfold getAttr? getAttrBy? getAttrBy
 repeat (any_goals (first | assumption | (with_reducible refine wpAny_loadPart_at hx ?_;rw [hc]) | with_reducible refine L1.at ?_ | with_reducible refine L2.at ?_ | wp_step))
 refine codeAny_call_builtin PySem.F.excAttr_ValueError.ga.plain F.entry_bexc_ga (uQ X I hb (uR X I hm ha ?_))
 repeat (any_goals (first | assumption | wp_step))
end
theorem _root_.L2.ObjOk.there {P:Program} {w:World} {H:Hp} {h:Heap} {a:Addr} {o:HO} (x:ObjOk P w H h a o): ∃ ob,h.get? a=some ob:=by
 cases o with
 | lst xs=>obtain⟨_,_,_,_,e⟩:=x;exact⟨_,e⟩
 | tup xs=>obtain⟨_,_,_,⟨ob,e,_⟩,_⟩:=x;exact⟨_,e⟩
 | dK kvs=>obtain⟨_,_,_,_,o,_,_,e,_⟩:=x;exact⟨_,e⟩
 | dT kvs=>obtain⟨_,_,_,_,o,_,_,e,_⟩:=x;exact⟨_,e⟩
 | set S n=>obtain⟨o,_,_,_,e,_⟩:=x;exact⟨_,e⟩
 | ins C dx fs=>obtain⟨_,_,_,e,_⟩:=x;exact⟨_,e⟩
 | own y=>exact x
 | xd fs=>obtain⟨_,⟨_,_,_,e,_⟩,_⟩:=x;exact⟨_,e⟩
 | rng lo hi=>obtain⟨_,_,_,e⟩:=x;exact⟨_,e⟩
 | frz ob u=>obtain⟨e,_⟩:=x;exact⟨_,e⟩
 | tbl ps=>exact⟨_,(show h.get? a=some _ from x)⟩
 | met f y=>exact⟨_,(show h.get? a=some _ from x)⟩
 | ext φ=>obtain⟨_,e,_⟩:=x;exact e
section
variable {X:Cx} {ad:Ad} {pins:List (Addr×Obj)} {s:Shared} {σ:St} {H H':Hp} {B h':Heap} {ea:Addr} {cls a0:Value} {E₀:XK} {E:Nat->Hp->Prop}
structure DefX (X:Cx) (E₀:XK):Prop where
 ex:X.ex=[]
 stk:X.stack=X.env::X.outer
 fr:X.env.frame=some X.env.locals
 xe: ∀ e s',wpAny (model X.prog X.w) X.A (leaving X.env e) (fun _ s''=>CXe X.prog X.w X.outer X.H₀ X.s₀ E₀ e s'') (fun e' s''=>CXe X.prog X.w X.outer X.H₀ X.s₀ E₀ e' s'') s'->X.xe e s'
theorem aIw (J:Inv X pins σ H s) {b:Addr} {o:Obj} (e:X.s₀.heap.get? b=some o):b≠X.env.locals:=fun z=>by
 have:=ah e
 rw [z] at this
 exact absurd (bg this J.ok.above) (Nat.lt_irrefl _)
theorem uT (J:Inv X pins σ H s) {b:Addr} {o:Obj} (e:X.s₀.heap.get? b=some o) (nf:b∉X.fs):b∉frs X.stack:=fun z=>by
 rcases au.mp (J.stkSub b z) with q | q
 ·exact aIw J e q
 ·exact nf q
theorem aBb (T:DefX X E₀) (J:Inv X pins σ H' s) (fly:Heap.FlyingW B X.outer ea cls a0 h') (ff:s.heap.FunFrames B X.stack) (stays:B.StaysIn s.heap) (up:s.heap.UpToSlots h')
  (c8: ∀ b o,X.s₀.heap.get? b=some o->b∉X.fs-> ∃ o',B.get? b=some o') (c9: ∀ b o,H' b=some o-> ∃ o',B.get? b=some o') (ne:H' ea=none) (q:E₀ cls none H'):
  CXe X.prog X.w X.outer X.H₀ X.s₀ E₀ (.ref ea) { s with heap:=h' }:=by
 have nx: ∀ b,b∉X.ex:=fun b=>by rw [T.ex];simp
 have st2:B.StaysIn h':=fly.1
 have inB: ∀ b o,s.heap.get? b=some o->(∃ o',B.get? b=some o')->h'.get? b=some o:=fun b o e ⟨o',e'⟩=>by
  have:=stays b o' e'
  rw [e] at this
  cases this
  exact st2 b o e'
 have frame: ∀ b∈X.fs, ∀ o,s.heap.get? b=some o-> ∃ sl,h'.get? b=some { o with slots:=sl }:=fun b hb o e=>by
  obtain⟨_,o2,e2,nf⟩:=ff.mem (b:=b) (by rw [T.stk];show b∈frs (X.env::X.outer);unfold frs;rw [List.filterMap_cons,T.fr];exact List.mem_cons_of_mem _ hb)
  rw [e] at e2
  cases e2
  exact up b o e nf
 refine⟨ea,cls,a0,H',B,rfl,J.os,J.bare,fly,⟨fun b o e n hf _=> ?_,fun b o e n hf _=> ?_,fun b o e n _=> ?_,fun b o e _=> ?_,J.base.tups,J.base.frzs,J.base.tbls⟩,fun b o e=> ?_,ne,c8,c9,q⟩
 ·exact inB b o (J.base.keep b o e n hf (nx b)) (c8 b o e hf)
 ·obtain⟨sl,e1⟩:=J.base.slot b o e n hf (nx b)
  obtain⟨sl',e2⟩:=frame b hf _ e1
  exact⟨sl',e2⟩
 ·exact J.base.free b o e n (nx b)
 ·obtain⟨o',e1⟩:=J.base.there b o e (nx b)
  by_cases hf:b∈X.fs
  ·obtain⟨sl,e2⟩:=frame b hf _ e1
   exact⟨_,e2⟩
  ·exact⟨o',inB b o' e1 (c8 b o e hf)⟩
 ·refine(J.hok b o e).stay (fun c v hc e1=> ?_) (fun _ z=>z) fun _ _ z=>z
  rcases hc with rfl | hc
  ·exact inB c v e1 (c9 c o e)
  ·exact inB c v e1 (c9 c _ hc)
theorem p8 (T:DefX X E₀):XP X ad σ (fun c H'=>E₀ (.ref (ad.cls c)) none H'):=by
 intro pins H s e s' I hc
 obtain⟨ea,cls,a0,H',B,rfl,ho,hg,fly,un,hok,ne,c8,c9,c,rfl,q⟩:=hc
 have J:Inv X pins σ H' s':=I.call' (ch:=[]) ho un hok hg fun b hb=>by simp at hb
 refine T.xe _ _ ?_
 have hfr:X.A.frames=some (X.env::X.outer):=by rw [<-T.stk];exact I.ok.frames
 rw [T.stk] at fly
 refine wpAny_leaves_onW hfr T.fr fly fun h' fly' up=> ?_
 refine aBb T J fly' (by rw [T.stk];exact fly.2.2.1) fly.1 up (fun b o e hf=> ?_) c9 ne q
 obtain⟨o',e1⟩:=I.base.there b o e (by rw [T.ex];simp)
 exact c8 b o' e1 (uT I e hf)
theorem p9 {x:Str} {C:Addr} {np cpos pos kp:Pos} {msg:Str} {j:Nat} {D':Ends} (T:DefX X E₀) (hc:X.calm=true) (hg:L2.Gl X x) (hm:X.mg x=some (.ref C)) (hd:(x==("__debug__":Str))=false) (hi:excIn X.K C [.type "ValueError", .type "Exception", .type "BaseException", .type "object"] "ValueError.__new__"=true)
  (I:Inv X pins σ H s) (q:E₀ (.ref C) none H):wpAny (model X.prog X.w) X.A (exec (.Raise (some (.Call (.Name x np) [.Constant (.str msg) j kp] [] cpos)) none pos) X.env) (SP X pins D') X.xe s:=by
 have obj: ∀ h₀:Heap,X.K.In h₀-> ∃ bm N nm q bs hdct sn sub ab col dd k0 k1 k2 k3 k5 mN,h₀.get? C=some (excClassObj nm q C N bs bm hdct sn sub ab col dd k0 k1 k2 k3 k5 "ValueError.__new__")/\h₀.Ns N mN/\mN "__init__"=none/\OwnTail h₀ [.type "ValueError", .type "Exception", .type "BaseException", .type "object"] bm:=by
  intro h₀ Z
  have q:=hi
  unfold excIn at q
  split at q
  ·rename_i dd cd sl ho
   split at q
   ·rename_i C' bm k0 k1 k2 k3 n k5 hm hs
    simp only [av,beq_iff_eq,Bool.not_eq_true'] at q
    obtain⟨⟨⟨⟨⟨rfl,rfl⟩,hdel⟩,ht⟩,hok⟩,hni⟩:=q
    obtain⟨nm,bs,mro,ns,qn,hd,sn,sub,ab,col,del⟩:=cd
    dsimp only at hm hdel hok hni
    subst hm hdel
    have hsl:sl= #[k0,k1,k2,k3,some (.builtin "ValueError.__new__"),k5]:=by
     obtain⟨l⟩:=sl
     simp only at hs
     rw [hs]
    subst hsl
    exact⟨bm,ns,nm,qn,bs,hd,sn,sub,ab,col,dd,k0,k1,k2,k3,k5,_,Z _ _ ho, .of_isNs (isNs_of_in Z hok),nsMap_none_of_in Z hok hni,tail_of_in Z ht⟩
   ·cases q
  ·cases q
 obtain⟨bm,N,nm,qn,bs,hdct,sn,sub,ab,col,dd,k0,k1,k2,k3,k5,mN,hC,hN,hni,hT⟩:=obj X.base I.ok.mod.kin
 refine wpAny_Raise_call_subT (C:=C) (nm:=nm) (q:=qn) (N:=N) (bs:=bs) (bm:=bm) (hdct:=hdct) (sn:=sn) (sub:=sub) (ab:=ab) (col:=col) (dd:=dd) (k0:=k0) (k1:=k1) (k2:=k2) (k3:=k3) (k5:=k5)
  PySem.F.excBase_ValueError (mN:=mN) (hT.hasType PySem.F.excBase_ValueError.hasBase) (I.ok.hd hc) rfl hni (gH I hg hm ⟨rfl, ?_⟩ hd)
 refine Calls.evalArgs_plain (Calls.spliced_cons (Calls.Constant_str (k:=j) (pos:=kp) (Calls.spliced_nil ⟨rfl,(show 1<=sizeLine from by decide), ?_, ?_, ?_,fun h' e M=> ?_⟩)))
 ·exact I.bk _ _ hC
 ·exact hN.keeps I.bk
 ·exact hT.keeps I.bk
 ·-- the frame is left
  have I1:Inv X pins σ H { s with toks:=s.toks+1 }:=I.tok _
  have J:Inv X pins σ H { s with heap:=h',toks:=s.toks+1 }:=I.kept (t':=s.toks+1) M.keeps
  refine T.xe _ _ ?_
  have hfr:X.A.frames=some (X.env::X.outer):=by rw [<-T.stk];exact I.ok.frames
  have ff:s.heap.FunFrames (hideAll s.heap (frs X.stack)) X.stack:=funFrames_hide I.stack fun env he a ea=>List.mem_filterMap.mpr ⟨env,he,ea⟩
  have fk:h'.FunFrames (hideAll s.heap (frs X.stack)) X.stack:=ff.of_keeps fun b o hb _=>⟨o,M.keeps b o hb,rfl⟩
  have stays:(hideAll s.heap (frs X.stack)).StaysIn s.heap:=fun b o e=>of_hideAll _ e
  have ff0:=ff
  rw [T.stk] at ff0
  have stays':(hideAll s.heap (frs (X.env::X.outer))).StaysIn s.heap:=fun b o e=>of_hideAll _ e
  refine wpAny_leaves_madeW (h:=s.heap) (base:=hideAll s.heap (frs (X.env::X.outer))) hfr T.fr stays' ff0 M fun h2 t fly _ _ up=> ?_
  refine aBb T J fly (by rw [T.stk] at fk ⊢;exact fk) (fun b o e=>M.keeps b o (of_hideAll _ e)) up (fun b o e hf=> ?_) (fun b o e=> ?_) ?_ q
  ·obtain⟨o',e1⟩:=I.base.there b o e (by rw [T.ex];simp)
   exact⟨o',hideAll_get _ e1 (by have:=uT I e hf;rwa [T.stk] at this)⟩
  ·obtain⟨o',e1⟩:=(I.hok b o e).there
   exact⟨o',hideAll_get _ e1 fun z=>by
    have:=I.stkFree b (by rw [T.stk];exact z)
    rw [this] at e
    cases e⟩
  ·cases z:H e with
   | none=>rfl
   | some o=>
    obtain⟨o',e1⟩:=(I.hok e o z).there
    rw [M.new] at e1
    cases e1
end
section
variable {X:Cx} {ad:Ad} {pins:List (Addr×Obj)} {s:Shared} {σ:St} {H H':Hp} {B h':Heap} {ea:Addr} {cls a0:Value} {E₀:XK}
end
noncomputable def tX (X:Cx) (pins:List (Addr×Obj)) (D':Ends) (hd:ExceptHandler):Cx:=
 { X with pn:=X.pn++pins,xe:=fun e s₁=>wpAny (model X.prog X.w) X.A (noteFrame e X.env) (fun _ s₂=>wpAny (model X.prog X.w) X.A (setFlight e none) (fun _ s₃=>wpAny (model X.prog X.w) X.A (handleBy e X.env [hd]) (SP X pins D') X.xe s₃) X.xe s₂) X.xe s₁ }
section
variable {X:Cx} {ad:Ad} {pins pins':List (Addr×Obj)} {s:Shared} {σ:St} {H H':Hp} {B h':Heap} {ea:Addr} {cls a0:Value} {D':Ends} {hd:ExceptHandler}
structure Fram (X:Cx):Prop where
 ex:X.ex=[]
 stk:X.stack=X.env::X.outer
 fr:X.env.frame=some X.env.locals
theorem yN {E₀:XK} {x:Str} {c:Nat} {np cpos pos kp:Pos} {msg:Str} {j:Nat} (T:DefX X E₀) (hc:X.calm=true) (hg:L2.Gl X x) (hm:X.mg x=some (.ref (ad.cls c))) (hd:(x==("__debug__":Str))=false) (hi:excIn X.K (ad.cls c) [.type "ValueError", .type "Exception", .type "BaseException", .type "object"] "ValueError.__new__"=true):
  MS X ad (fun E=> ∀ σ c H,E σ c H->E₀ (.ref (ad.cls c)) none H) (.Raise (some (.Call (.Name x np) [.Constant (.str msg) j kp] [] cpos)) none pos) (fD c):=by
 intro pins s σ H D' I ⟨G₀,G,ρ,E,S,hx',hr⟩
 exact p9 T hc hg hm hd hi I (hx'.2 σ c H (hr σ G H S))
end
structure ExcCls (K:Frag) (C:Addr):Prop where
 is:(clsIn K C).isSome=true
 ob:mroIn K C (.type "object")=some true
 be:mroIn K C (.type "BaseException")=some true
 ca:findIn K (.ref C) "__class__"=some (some (.builtin "object.__class__"))
 ga:findIn K (.ref C) "__getattribute__"=some (some (.builtin "BaseException.__getattribute__"))
 gn:findIn K (.ref C) "__getattr__"=some none
theorem qA {K:Frag} {x C:Addr} (T:ExcCls K C):KitX K (.ref x) (.ref C) (fun h=>mF h x C) where
 ty:=fun _ _ _ I=>I.ty
 it:=fun _ _ Z _=>by
  obtain⟨cdD,hcD⟩:=Option.isSome_iff_exists.mp T.is
  unfold clsIn at hcD
  split at hcD
  ·rename_i c' d' cd' sl' ho
   intro A' Q' E' s' k q
   unfold isType loadHead
   exact aa (wpAny_loadPart (k _ _ (Z _ _ ho)) (ae q))
  ·cases hcD
 ne:=fun h tp dd its n sl Z htp=>by
  obtain⟨cdD,hcD⟩:=Option.isSome_iff_exists.mp T.is
  refine Bool.eq_false_iff.mpr fun q=> ?_
  have e:C=tp:=Value.ref.inj (beq_iff_eq.mp q)
  subst e
  unfold clsIn at hcD
  split at hcD
  ·rename_i c' d' cd' sl' ho
   have z:=(Z _ _ ho).symm.trans htp
   cases z
  ·cases hcD
 ca:=fun Z I k=>uS Z I T.ob T.be T.ca T.ga T.gn k
noncomputable def tyD (ad:Ad):D->Option Value
 | .non=>some (.type "NoneType")
 | .bl _=>some (.type "bool")
 | .int _=>some (.type "int")
 | .str _=>some (.type "str")
 | .tup _=>some (.type "tuple")
 | .lst _=>some (.type "list")
 | .exc c=>some (.ref (ad.cls c))
 | .fn _=>none
def aKr (X:Cx) (ad:Ad) (cv:Value) (p:D->Option Bool):Prop:= ∀ d b,p d=some b-> ∃ t,tyD ad d=some t/\kitOne X.K t cv=some b
section
variable {X:Cx} {ad:Ad} {pins:List (Addr×Obj)} {s:Shared} {σ:St} {H G:Hp} {ρ:Rho} {E:Nat->Hp->Prop} {pos p tp:Pos} {a:Expr} {f:F}
theorem uU {A:Around} {Q:Value->Shared->Prop} {Ex:Value->Shared->Prop} {d:D} {v:V} {u t cv:Value} {b:Bool} (hx: ∀ c,ExcCls X.K (ad.cls c)) (I:Inv X pins σ H s) (hG:Same G H) (q:Rep X.K ad G d v) (r:aP v u) (ht:tyD ad d=some t) (e:kitOne X.K t cv=some b)
  (h: ∀ tk,Q (.bool b) { s with toks:=tk }):wpAny (model X.prog X.w) A (call (.builtin "isinstance") [u,cv]) Q Ex s:=by
 cases d with
 | non=>unfold Rep at q;subst q;cases (show u=Value.none from r);cases ht;exact kia_one kitx_none I.kIn True.intro e (by intro z;cases z) h
 | bl k=>unfold Rep at q;subst q;cases (show u=Value.bool k from r);cases ht;exact kia_one kitx_bool I.kIn True.intro e (by intro z;cases z) h
 | int k=>unfold Rep at q;subst q;obtain⟨t',rfl⟩:=r;cases ht;exact kia_one kitx_int I.kIn True.intro e (by intro z;cases z) h
 | str k=>unfold Rep at q;subst q;obtain⟨t',rfl⟩:=r;cases ht;exact kia_one kitx_str I.kIn True.intro e (by intro z;cases z) h
 | tup ds=>
  unfold Rep at q
  obtain⟨p,vs,rfl,hp,_⟩:=q
  cases (show u=Value.ref p from r)
  cases ht
  obtain⟨its,_,⟨o,h1,h2,_⟩,_⟩:=I.tuple (hG.seqT hp)
  exact kia_one kitx_tuple I.kIn ⟨o,h1,h2⟩ e (by intro z;cases z) h
 | lst ds=>
  unfold Rep at q
  obtain⟨p,vs,rfl,hp,_⟩:=q
  cases (show u=Value.ref p from r)
  cases ht
  obtain⟨its,_,⟨o,n,h1,h2,_⟩,_⟩:=I.list (hG.seq hp)
  exact kia_one kitx_list I.kIn ⟨o,h1,h2⟩ e (by intro z;cases z) h
 | exc c=>
  unfold Rep at q
  obtain⟨p,rfl,hp⟩:=q
  cases (show u=Value.ref p from r)
  cases ht
  obtain⟨ex,_,_⟩:=(show ObjOk X.prog X.w H s.heap p (aLv (ad.cls c) p) from I.hok p _ (hG _ _ hp))
  exact kia_one (qA (hx c)) I.kIn ex e (by intro z;cases z) h
 | fn k=>cases ht
inductive ClNm (X:Cx) (t:Str) (cv:Value):Prop
 | blt (T:String):cv= .type T->L2.Gl X t->X.mg t=none->bootBuiltins t=some (.type T)->t≠"__name__"->(t==("__debug__":Str))=false->ClNm X t cv
 | own (C:Addr):cv= .ref C->L2.Gl X t->X.mg t=some (.ref C)->(t==("__debug__":Str))=false->ClNm X t cv
theorem ClNm.ev {t:Str} {cv:Value} {Ex:Value->Shared->Prop} {Q:Value->Shared->Prop} (c:ClNm X t cv) (I:Inv X pins σ H s) (h:Q cv s):wpAny (model X.prog X.w) X.A (eval (.Name t tp) X.env) Q Ex s:=by
 cases c with
 | blt T e g m b n d=>subst e;exact fR I g m b h n d
 | own C e g m d=>subst e;exact gH I g m h d
theorem uV {t:Str} {cv:Value} {P:D->Option Bool} (hx: ∀ c,ExcCls X.K (ad.cls c)) (hg:L2.Gl X "isinstance") (hm:X.mg "isinstance"=none) (c:ClNm X t cv) (k:aKr X ad cv P) (ha:ML X ad a f)
  (he:starEach [a, .Name t tp] X.env=(false,eval a X.env)::starEach [.Name t tp] X.env):ME X ad (.Call (.Name "isinstance" p) [a, .Name t tp] [] pos) (rIs P f):=by
 intro pins s σ H Q I ⟨G,ρ,E,hG,hS,hx',hr⟩
 refine wpAny_Call_Name_kw (fR (u:= .builtin "isinstance") I hg hm (by decide+kernel) ?_ (by decide) (by decide))
 refine PyProof.Rows.callWith_builtin1 ?_ he rfl
 rw [he]
 refine Calls.spliced_cons (L2.thn (ha.lk pins s σ H G ρ _ Q E I hG hS hx' hr) fun u s1 hz_=> ?_)
 obtain⟨v,d,G1,H1,I1,r1,st,q,k1⟩:=hz_
 refine Calls.spliced_cons (c.ev I1 (Calls.spliced_nil ?_))
 have k1':RK X.K ad G1 H1 (match P d with | some b=> .ok (.bl b) | none=> .bad) Q E:=k1
 cases e:P d with
 | none=>rw [e] at k1';exact k1'.elim
 | some b=>
  rw [e] at k1'
  obtain⟨ty,e1,e2⟩:=k d b e
  have fin: ∀ tk,EP X pins σ Q (.bool b) { s1 with toks:=tk }:=fun tk=>⟨.bl b,H1,I1.tok tk,rfl,k1'.ok_now st.gh aS⟩
  rcases q with q | ⟨a',vs,ds,rfl,rfl,g1,h1,rp⟩
  ·exact uU hx I1 st.gh q r1 e1 e2 fin
  ·refine uU (G:=upd G1 a' (.lst vs)) hx I1 (fun b o e=> ?_) ?_ r1 e1 e2 fin
   ·by_cases z:b=a'
    ·subst z;rw [aE] at e;rw [h1];exact e
    ·rw [aA z] at e;exact st.gh b o e
   ·unfold Rep
    exact⟨a',vs,rfl,SqL.of aE,rp.mono (Same.upd_new g1)⟩
end
structure RkC (K:Frag) (A:Addr):Prop where
 cl:Cls K A
 n1:fA K A "held"
 n2:fA K A "done"
 n3:fA K A "undone"
structure StepR (foot:List Addr) (G H G' H':Hp):Prop where
 sg:Same G G'
 gh:Same G' H'
 sh: ∀ b o,b∉foot->H b=some o->H' b=some o
 nw: ∀ b,G b=none->G' b≠none->H b=none
 th: ∀ b,H b≠none->H' b≠none
def RMK (K:Frag) (ad:Ad) (A:Nat) (G H:Hp) (p dx d l1 l2:Addr) (m:RM) (Q:VK) (E:Nat->Hp->Prop):Prop:=match m with
 | .pure x=>RK K ad G H x Q E
 | .chg x r'=> ∀ v G' H' l2',StepR [p,dx,d,l1,l2] G H G' H'->RackIn K ad A G' H' p r' dx d l1 l2'->(l2'=l2\/H l2'=none)->Rep K ad G' x v->Q v H'
noncomputable def spM (K:Frag) (ad:Ad) (A n:Nat) (m:FM):Sp:=fun vs H Q E=> ∃ G p r dx d l1 l2 ds ws,vs=V.ref p::ws/\Same G H/\RackIn K ad A G H p r dx d l1 l2/\aF K ad G ds ws/\ds.length=n/\RMK K ad A G H p dx d l1 l2 (m r ds) Q (fun c H'=>E (.ref (ad.cls c)) none H')
structure MetOk (X:Cx) (ad:Ad) (A:Addr) (m:Str) (n:Nat) (M:FM):Prop where
 no:m≠"held"/\m≠"done"/\m≠"undone"
 ok: ∃ f k fd ps,Meth X.K A m f/\FnOk X.prog X.w X.K X.mg X.base (CXe X.prog X.w) k f fd ps (spM X.K ad A n M)/\Room k X.A/\eK X.K fd ps []
noncomputable def cD:Py->Str
 | .len=>"len" | .range=>"range" | .enum=>"enumerate" | .zip=>"zip" | .isin=>"isinstance" | .int=>"int" | .bool=>"bool" | .str=>"str" | .tuple=>"tuple" | .list=>"list"
 | .sum=>"sum" | .all=>"all" | .any=>"any" | .sorted=>"sorted" | .min=>"min" | .max=>"max" | .abs=>"abs" | .set=>"set"
noncomputable def aL4 (X:Cx) (ad:Ad) (x:Str):SK.Gl->Prop
 | .fn k n F=> ∃ r f,FnGood X ad r x n F f/\Room r X.A/\f=ad.fnA k
 | .exc c=>X.mg x=some (.ref (ad.cls c))/\c<ad.nb
 | .verr=>x="ValueError"/\X.mg x=none
 | .val d=> ∃ u v,X.mg x=some u/\aP v u/\ ∀ G,Rep X.K ad G d v
 | .py p=>x=cD p/\X.mg x=none
 | .cls A ms=>X.mg x=some (.ref A)/\RkC X.K A/\ ∀ m n M,ms.lookup m=some (n,M)->MetOk X ad A m n M
structure CtxOk (X:Cx) (ad:Ad) (C:SK.Ctx):Prop where
 N:X.N=C.N
 nd:X.N.Nodup
 vis: ∀ x i,loc C x=some i->X.N[i]? =some x/\Vis X.env.scope x/\(x==("__debug__":Str))=false/\(x==("__classdict__":Str))=false
 gk: ∀ x,C.sc.names.lookup x=some .globalImplicit->L2.Gl X x
 gt: ∀ x g,C.tab.lookup x=some g->(x==("__debug__":Str))=false/\aL4 X ad x g
 cap: ∀ x i,dR C x=some i->X.env.kindOf x=some .cell\/X.env.kindOf x=some .free
 calm:X.calm=true
 un:X.A.units+62<cLine
 hd:X.A.handled=none
 exc: ∀ c,ExcCls X.K (ad.cls c)
 kin: ∀ c e,c<ad.nb->kitOne X.K (.ref (ad.cls e)) (.ref (ad.cls c))=some (hit c e)
 kve: ∀ e,kitOne X.K (.ref (ad.cls e)) (.type "ValueError")=some true
 fnv: ∀ j n F,C.fns[j]? =some (n,F)-> ∃ r,FnAt X ad r n F (ad.fnA j)/\Room r X.A
section
variable {X:Cx} {ad:Ad} {C:SK.Ctx}
theorem aDy {x:Str} {g:SK.Gl} (h:glo C x=some g):C.sc.names.lookup x=some .globalImplicit/\C.tab.lookup x=some g:=by
 unfold glo at h
 split at h
 ·rename_i e;exact⟨e,h⟩
 ·cases h
theorem CtxOk.gl (O:CtxOk X ad C) {x:Str} {g:SK.Gl} (h:glo C x=some g):L2.Gl X x/\(x==("__debug__":Str))=false/\aL4 X ad x g:=
 let ⟨a,b⟩:=aDy h
 ⟨O.gk x a,(O.gt x g b).1,(O.gt x g b).2⟩
theorem uW {t:Str} {g:SK.Gl} {P:D->Option Bool} (O:CtxOk X ad C) (h:glo C t=some g) (e:isP g=some P): ∃ cv,ClNm X t cv/\aKr X ad cv P:=by
 obtain⟨hg,hd,hk⟩:=O.gl h
 cases g with
 | fn _ _ _=>cases e
 | cls _ _=>cases e
 | val _=>cases e
 | exc c=>
  cases e
  obtain⟨hm,hc⟩:=hk
  refine⟨.ref (ad.cls c), .own _ rfl hg hm hd,fun d b hb=> ?_⟩
  cases d<;>try (cases hb;done)
  rename_i k
  cases hb
  exact⟨_,rfl,O.kin c k hc⟩
 | verr=>
  cases e
  obtain⟨hx,hm⟩:=hk
  subst hx
  refine⟨.type "ValueError", .blt "ValueError" rfl hg hm (by decide+kernel) (by decide) hd,fun d b hb=> ?_⟩
  cases d<;>try (cases hb;done)
  rename_i k
  cases hb
  refine⟨_,rfl, ?_⟩
  rw [O.kve k]
  congr 1
  unfold hit
  simp
 | py p=>
  obtain⟨hx,hm⟩:=hk
  cases p<;>try (cases e;done)
  all_goals
   cases e
   subst hx
  ·refine⟨.type "int", .blt "int" rfl hg hm (by decide+kernel) (by decide) hd,fun d b hb=> ?_⟩
   cases d<;>first | (cases hb;done) | (cases hb;exact⟨_,rfl,by rfl⟩)
  ·refine⟨.type "bool", .blt "bool" rfl hg hm (by decide+kernel) (by decide) hd,fun d b hb=> ?_⟩
   cases d<;>first | (cases hb;done) | (cases hb;exact⟨_,rfl,by rfl⟩)
  ·refine⟨.type "str", .blt "str" rfl hg hm (by decide+kernel) (by decide) hd,fun d b hb=> ?_⟩
   cases d<;>first | (cases hb;done) | (cases hb;exact⟨_,rfl,by rfl⟩)
  ·refine⟨.type "tuple", .blt "tuple" rfl hg hm (by decide+kernel) (by decide) hd,fun d b hb=> ?_⟩
   cases d<;>first | (cases hb;done) | (cases hb;exact⟨_,rfl,by rfl⟩)
  ·refine⟨.type "list", .blt "list" rfl hg hm (by decide+kernel) (by decide) hd,fun d b hb=> ?_⟩
   cases d<;>first | (cases hb;done) | (cases hb;exact⟨_,rfl,by rfl⟩)
theorem bL {x:Str} {k:NameKind} {l:List (Str×NameKind)} (h:(l.lookup x==some k)=true):l.lookup x=some k:=by simpa using h
theorem gP {sc:Scope} {xs:List Str} (h:iQ sc xs=true):sc.kind= .function/\(mD sc=[]\/(mD sc=xs/\xs.length=1))/\(∀ x∈xs,sc.names.lookup x=some (if(mD sc).isEmpty then .local else .cell))/\(∀ y∈sc.names,y.2= .local->sc.names.lookup y.1=some .local)/\
  (xs++aO sc).Nodup/\(∀ x∈xs++aO sc,(x==("__debug__":Str))=false/\(x==("__classdict__":Str))=false)/\ ∀ x∈aO sc,sc.names.lookup x=some .free:=by
 unfold iQ at h
 simp only [av] at h
 obtain⟨⟨⟨⟨⟨⟨h1,h2⟩,h3⟩,h4⟩,h5⟩,h6⟩,h7⟩:=h
 refine⟨by simpa using h1,by simpa using h2,fun x hx=> ?_,fun y hy z=> ?_,of_decide_eq_true h5,fun x hx=> ?_,fun x hx=> ?_⟩
 ·exact bL (zAd h3 x hx)
 ·have:=zAd h4 y hy
  rw [z] at this
  simpa using this
 ·have:=zAd h6 x hx
  simpa using this
 ·exact bL (zAd h7 x hx)
theorem kY {x:Str} {N:List Str} {i:Nat} (h:idx x N=some i):x∈N:=List.mem_of_getElem? (eN h)
theorem kZ {x:Str} {i:Nat} (h:loc C x=some i):idx x C.N=some i/\(C.sc.names.lookup x=some .local\/C.sc.names.lookup x=some .cell\/C.sc.names.lookup x=some .free):=by
 unfold loc at h
 split at h
 ·rename_i e;exact⟨h, .inl e⟩
 ·rename_i e;exact⟨h, .inr (.inl e)⟩
 ·rename_i e;exact⟨h, .inr (.inr e)⟩
 ·cases h
theorem dU {x:Str} {i:Nat} (h:dR C x=some i):idx x C.N=some i/\(C.sc.names.lookup x=some .cell\/C.sc.names.lookup x=some .free):=by
 unfold dR at h
 split at h
 ·rename_i e;exact⟨h, .inl e⟩
 ·rename_i e;exact⟨h, .inr e⟩
 ·cases h
theorem k8 {α β:Type} {f:α->Option β}: ∀ {l:List α} {r:List β},dO f l=some r-> ∀ a∈l, ∃ b,f a=some b
 | [],_,_,a,ha=>by cases ha
 | x::l,r,h,a,ha=>by
  unfold dO at h
  cases e:f x with
  | none=>rw [e] at h;cases h
  | some y=>
   rw [e] at h
   obtain⟨r',h1,_⟩:=zMd h
   rcases au.mp ha with rfl | ha
   ·exact⟨y,e⟩
   ·exact k8 h1 a ha
theorem eW {x:Str} {k:NameKind} {l:List (Str×NameKind)} (h:l.lookup x=some k):(x,k)∈l:=PySem.mem_of_lookup h
theorem k9 {x:Str} {sc:Scope} (h:(x,NameKind.free)∈sc.names):x∈aO sc:=by
 unfold aO
 exact aq.mpr ⟨(x, .free),List.mem_filter.mpr ⟨h,by simp⟩,rfl⟩
theorem uX {sc:Scope} {xs:List Str} {cs:List Nat} (O:CtxOk X ad C) (h:iQ sc xs=true) (hc:dO (fun x=>dR C x) (aO sc)=some cs):CompSc X C sc xs cs:=by
 obtain⟨h1,h2,h3,h4,h5,h6,h7⟩:=gP h
 have hC:Cel sc:=by
  rcases h2 with z | ⟨z,l⟩
  ·exact .inl z
  ·obtain⟨x,rfl⟩:=List.length_eq_one_iff.mp l
   have:=h3 x (.head _)
   rw [z] at this
   exact .inr ⟨x,z,this⟩
 refine⟨h1,hC,h4,fun x hx=> ?_,fun x hx=>h7 x (k9 hx),O.N,hc⟩
 obtain⟨i,e⟩:=k8 hc x (k9 hx)
 exact O.cap x i e
theorem aDz {tg:Expr} {xs:List Str} {k:Nat} {x:Str} (hN:X.N.Nodup) (e:bR tg=some (xs,k)) (hx:xs=[x]) (h1:X.N[0]? =some x) (h2:X.env.scope.names.lookup x=some .cell) (h3:X.fn x=true):PG X tg (gTg X.K k):=by
 subst hx
 cases tg<;>try (cases e)
 ·exact iF hN h1 (.inr h2) (.inl h3)
 ·rename_i es j px
  unfold bR at e
  obtain⟨ys,e1,e2⟩:=zBd e
  by_cases hl:2<=ys.length
  ·rw [if_pos hl] at e2
   cases e2
   exact absurd hl (by simp)
  ·rw [if_neg hl] at e2
   cases e2
theorem aIx {sc:Scope} {xs:List Str} {cs:List Nat} {s3:Shared} {H3:Hp} {fp:List Addr} {pins:List (Addr×Obj)} (O:CtxOk X ad C) (h:iQ sc xs=true) (hc:dO (fun x=>dR C x) (aO sc)=some cs):
  CtxOk (cX X (xs++aO sc) sc s3 H3 fp pins) ad { C with sc:=sc,N:=xs++aO sc }:=by
 obtain⟨h1,h2,h3,h4,h5,h6,h7⟩:=gP h
 have rl: ∀ x,(relabel sc X.env).names.lookup x=(sc.names.lookup x).map (fun k=>if(k==NameKind.free&&X.env.scope.kind== .function&&X.env.kindOf x==some .cell) then NameKind.cell else k):=fun x=>bH
 have fr: ∀ x,sc.names.lookup x=some .free->(relabel sc X.env).names.lookup x=some .cell\/(relabel sc X.env).names.lookup x=some .free:=fun x e=>by
  rw [rl x,e]
  simp only [Option.map]
  split
  ·exact .inl rfl
  ·exact .inr rfl
 have nc: ∀ x,sc.names.lookup x=some .cell->(relabel sc X.env).names.lookup x=some .cell:=fun x e=>by rw [rl x,e];rfl
 refine⟨rfl,h5,fun x i e=> ?_,fun x e=> ?_,fun x g e=> ?_,fun x i e=> ?_,O.calm,O.un,O.hd,O.exc,O.kin,O.kve,fun j n F e=>let ⟨r,T,hr⟩:=O.fnv j n F e;⟨r,⟨T.kp,T.ok⟩,hr⟩⟩
 ·obtain⟨e1,e2⟩:=kZ e
  have hm:=kY e1
  refine⟨eN e1, ?_,(h6 x hm).1,(h6 x hm).2⟩
  rcases e2 with e2 | e2 | e2
  ·refine .inl ?_
   show(relabel sc X.env).names.lookup x=some .local
   rw [rl x]
   have:sc.names.lookup x=some .local:=e2
   rw [this]
   rfl
  ·exact .inr (.inl (nc x e2))
  ·rcases fr x e2 with z | z
   ·exact .inr (.inl z)
   ·exact .inr (.inr z)
 ·show(relabel sc X.env).names.lookup x=some .globalImplicit
  rw [rl x]
  have:sc.names.lookup x=some .globalImplicit:=e
  rw [this]
  rfl
 ·obtain⟨e1,e2⟩:=O.gt x g e
  refine⟨e1, ?_⟩
  cases g with
  | fn k n F=>
   obtain⟨r,f,T,hr,hf⟩:=e2
   exact⟨r,f,⟨T.mg,T.kp,T.ok⟩,hr,hf⟩
  | exc c=>exact e2
  | verr=>exact e2
  | val d=>exact e2
  | py p=>exact e2
  | cls A ms=>exact⟨e2.1,e2.2.1,fun m n M hm=>let z:=e2.2.2 m n M hm;⟨z.no,z.ok⟩⟩
 ·obtain⟨e1,e2⟩:=dU e
  rcases e2 with e2 | e2
  ·exact .inl (nc x e2)
  ·exact fr x e2
end
section
variable {prog:Program} {w:World} {A:Around} {Ex:Value->Shared->Prop} {s:Shared}
theorem rS {it t:Addr} {i:Nat} {items:Array Value} {x:Value} {Q:Value->Shared->Prop} (hit:s.heap.IsTupleIter it t i) (ht:s.heap.IsTuple t items) (hx:items[i]? =some x)
  (hQ: ∀ h',h'.IsTupleIter it t (i+1)->Heap.SameBut it s.heap h'->Q x { s with heap:=h' }):wpAny (model prog w) A (Builtin.SmallTypes.nextOf (.ref it)) Q Ex s:=by
 obtain⟨o,o1,o2,o3⟩:=id hit
 obtain⟨u,u1,_,nu,u2⟩:=ht
 unfold Builtin.SmallTypes.nextOf
 refine aa (wpAny_callSpecial?_slot (name:=Str.ofString "__next__") hit.typeIs F.slot_tuple_iterator_next (wpAny_call_entry F.slot_tuple_iterator_next hit.typeIs F.entry_tuple_iterator_next ?_ (F.args_tuple_iterator_next_1 _)))
 show wpAny _ _ (field (.ref it) 0 >>= _) _ _ s
 refine aa (wpAny_field o1 o3 (x:= .ref t) rfl ?_)
 show wpAny _ _ (if(Value.ref t==Value.none)=true then _ else _) _ _ s;rw [if_neg (show ¬ ((Value.ref t==Value.none)=true) from bf)]
 show wpAny _ _ (field (.ref it) 1 >>= _) _ _ s
 refine aa (wpAny_field o1 o3 (x:= .int i 0) rfl ?_)
 show wpAny _ _ (seqItems? (.ref t) >>= _) _ _ s
 refine aa (wpAny_seqItems u1 u2 ?_)
 simp only [Int.toNat_natCast,hx]
 refine aa (wpAny_setField o1 o3 (by simp) (ae ⟨x,rfl,ae (hQ _ ?_ (Heap.SameBut.update ..))⟩))
 exact⟨_,Heap.get?_update_self _ o1 (Obj.isFreed_of_fields (Obj.data_mapFields o3 _)),(Obj.cls_mapFields ..).trans o2,by rw [Obj.data_mapFields o3];simp [rawInt]⟩
theorem uY {it t:Addr} {i:Nat} {items:Array Value} {Q:Value->Shared->Prop} (hh:A.handled=none) (hit:s.heap.IsTupleIter it t i) (ht:s.heap.IsTuple t items) (hx:items[i]? =none)
  (hE: ∀ h' e,Heap.ExtBut it s.heap h'->(∃ o,h'.get? e=some o/\o.cls= .type "StopIteration")->Ex (.ref e) { s with heap:=h' }):wpAny (model prog w) A (Builtin.SmallTypes.nextOf (.ref it)) Q Ex s:=by
 obtain⟨o,o1,o2,o3⟩:=id hit
 obtain⟨u,u1,_,nu,u2⟩:=ht
 unfold Builtin.SmallTypes.nextOf
 refine aa (wpAny_callSpecial?_slot (name:=Str.ofString "__next__") hit.typeIs F.slot_tuple_iterator_next (wpAny_call_entry F.slot_tuple_iterator_next hit.typeIs F.entry_tuple_iterator_next ?_ (F.args_tuple_iterator_next_1 _)))
 show wpAny _ _ (field (.ref it) 0 >>= _) _ _ s
 refine aa (wpAny_field o1 o3 (x:= .ref t) rfl ?_)
 show wpAny _ _ (if(Value.ref t==Value.none)=true then _ else _) _ _ s;rw [if_neg (show ¬ ((Value.ref t==Value.none)=true) from bf)]
 show wpAny _ _ (field (.ref it) 1 >>= _) _ _ s
 refine aa (wpAny_field o1 o3 (x:= .int i 0) rfl ?_)
 show wpAny _ _ (seqItems? (.ref t) >>= _) _ _ s
 refine aa (wpAny_seqItems u1 u2 ?_)
 simp only [Int.toNat_natCast,hx]
 refine aa (wpAny_rule (aa (wpAny_setField o1 o3 (by simp) ?_)))
 show wpAny _ _ (newExc (.type "StopIteration") [] >>= _) _ _ _
 refine aa ?_;simp only [newExc,newTuple]
 refine aa (wpAny_newObj_type ?_ (by size_fits));refine aa (m:=firstArgMember _ _) (wpAny_of_eq (a:=Value.none) (by first | rfl | (simp only [firstArgMember];rfl)) ?_)
 refine wpAny_newObj_type ?_ (by size_fits);simp only [raiseNew]
 refine aa (wpAny_handled ?_)
 first | rw [show A.in1.handled=none from hh] | rw [hh]
 refine aa (ae (wpAny_throw ?_))
 refine hE _ _ (fun b ob ne e=> ?_) ⟨_,ag _ rfl,rfl⟩
 exact af _ (af _ ((Heap.get?_update_other _ _ (Ne.symm ne)).trans e))
end
section
variable {prog:Program} {w:World} {A:Around} {Ex:Value->Shared->Prop} {s:Shared}
end
theorem uZ {n l m:Nat} (a:l<n) (b:m<n):ZipApart (n+4) (n+2) (n+3) n (n+1) l m:=by
 constructor<;>(intro h;have h2:(_:Nat)=_:=h;revert h2;omega)
theorem dW {X:Cx} {pins:List (Addr×Obj)} {σ:L2.St} {H:Hp} {s:Shared} {h':Heap} {t':Nat} {fp:List Addr} (I:Inv X pins σ H s) (k: ∀ b o,b∉fp->s.heap.get? b=some o->h'.get? b=some o) (hf: ∀ b∈fp,nR X pins H b):Inv X pins σ H { s with heap:=h',toks:=t' }:=by
 have nit: ∀ b u,H b=some u->b∉fp:=fun b u e z=>by rw [(hf b z).1] at e;cases e
 refine I.step (g':=s.gens) (d':=s.drawn) (ch:=fp) (fun b hb=> ?_) (fun b o _ _ hc e _=>k b o hc e) (fun b o _ _ hc e _=>⟨o.slots,k b o hc e⟩) (fun _ _ _ _ n=>n)
  (fun b o hc e=>⟨o,k b o hc e⟩) (fun _ _ e=>e) (fun _ _ _ e=>e) (fun b ps e=>⟨#[],by rw [e];simp⟩) (fun m hm=> ?_) (fun b u e=> ?_) I.bare
 ·obtain⟨_,f1,_,f3,f4,f5⟩:=hf b hb
  exact⟨f3,f1,f4,f5⟩
 ·obtain⟨o,es,ep,ho,r⟩:=hm
  exact⟨o,es,ep,k _ o (fun z=>(hf _ z).2.1 rfl) ho,r⟩
 ·refine(I.hok b u e).stay (fun c v hc q=>k c v ?_ q) (fun _ q=>q) fun _ _ q=>q
  rcases hc with z | z
  ·rw [z];exact nit b u e
  ·exact nit c _ z
section
variable {prog:Program} {w:World} {A:Around} {Ex:Value->Shared->Prop} {s:Shared}
theorem rT {It:Heap->Nat->Prop} {e it:Addr} {i:Nat} {x old:Value} {Q:Option Value->Shared->Prop} (he:IsEnum s.heap e it i old) (hne:e≠it)
  (hn: ∀ (A':Around) (E':Value->Shared->Prop) (Q':Value->Shared->Prop),(∀ h',It h' (i+1)->Heap.SameBut it s.heap h'->Q' x { s with heap:=h' })->wpAny (model prog w) A' (Builtin.SmallTypes.nextOf (.ref it)) Q' E' s)
  (hk: ∀ h h',It h (i+1)->(∀ o,h.get? it=some o->h'.get? it=some o)->It h' (i+1))
  (hQ: ∀ h',IsEnumOut h' e it ((i:Int)+1) x s.heap.objs.size->It h' (i+1)->h'.get? s.heap.objs.size=some { cls:= .type "tuple",data:= .seq #[.int i s.toks,x] }->h'.objs.size=s.heap.objs.size+1->
   (∀ b o,b≠e->b≠it->s.heap.get? b=some o->h'.get? b=some o)->Q (some (.ref s.heap.objs.size)) { s with heap:=h',toks:=s.toks+1 }):wpAny (model prog w) A (pyNext (.ref e)) Q Ex s:=by
 have hT:s.TypeIs (.ref e) "enumerate":=⟨_,he,rfl⟩
 unfold pyNext
 refine aa (wpAny_attempt (wpAny_callSpecial?_slot (name:=Str.ofString "__next__") hT F.slot_enumerate_next (wpAny_call_entry F.slot_enumerate_next hT F.entry_enumerate_next ?_ (F.args_enumerate_next_1 _))))
 obtain⟨hp,g,d,tk,os⟩:=s
 show wpAny _ _ (field (.ref e) 2 >>= _) _ _ _
 refine aa (wpAny_field he rfl (x:= .ref it) rfl (aa (hn _ _ _ fun g1 t1 s1=> ?_)))
 replace s1:Heap.SameBut it hp g1:=s1
 have e1:IsEnum g1 e it i old:=(s1.2 e hne).trans he
 show wpAny _ _ (field (.ref e) 3 >>= _) _ _ ⟨g1,g,d,tk,os⟩
 refine aa (wpAny_field e1 rfl (x:=rawInt i) rfl ?_);show wpAny _ _ (field (.ref e) 4 >>= _) _ _ ⟨g1,g,d,tk,os⟩
 refine aa (wpAny_field e1 rfl (x:= .none) rfl ?_);show wpAny _ _ (mkInt i >>= _) _ _ ⟨g1,g,d,tk,os⟩
 refine aa (wpAny_mkInt ?_);show wpAny _ _ (setField (.ref e) 3 (rawInt ((i:Int)+1)) >>= _) _ _ ⟨g1,g,d,tk+1,os⟩
 refine aa (wpAny_setField_rec e1 (by simp) fun g2 e2 s2=> ?_)
 replace s2:Heap.SameBut e g1 g2:=s2
 replace e2:IsEnum g2 e it ((i:Int)+1) old:=e2
 show wpAny _ _ (setField (.ref e) 4 .none >>= _) _ _ ⟨g2,g,d,tk+1,os⟩
 refine aa (wpAny_setField_rec e2 (by simp) fun g3 e3 s3=> ?_)
 replace s3:Heap.SameBut e g2 g3:=s3
 replace e3:IsEnum g3 e it ((i:Int)+1) old:=e3
 show wpAny _ _ (newTuple [.int i tk,x] >>= _) _ _ ⟨g3,g,d,tk+1,os⟩
 refine aa (wpAny_newTuple ?_)
 have e4:IsEnum (g3.push { cls:= .type "tuple",data:= .seq #[.int i tk,x] }) e it ((i:Int)+1) old:=af _ e3
 generalize hg4:g3.push { cls:= .type "tuple",data:= .seq #[.int i tk,x] }=g4 at e4
 have hsz:g3.objs.size=hp.objs.size:=by rw [s3.1,s2.1,s1.1]
 have le:e<hp.objs.size:=ah he
 have t4:g4.get? hp.objs.size=some { cls:= .type "tuple",data:= .seq #[.int i tk,x] }:=by rw [<-hg4, <-hsz];exact ag _ rfl
 have z4:g4.objs.size=hp.objs.size+1:=by rw [<-hg4,ai,hsz]
 have k4: ∀ b o,b≠e->b≠it->hp.get? b=some o->g4.get? b=some o:=fun b o n1 n2 q=>by
  rw [<-hg4];exact af _ ((s3.2 b n1).trans ((s2.2 b n1).trans ((s1.2 b n2).trans q)))
 have i4:It g4 (i+1):=hk g1 g4 t1 fun o q=>by rw [<-hg4];exact af _ ((s3.2 it hne.symm).trans ((s2.2 it hne.symm).trans q))
 show wpAny _ _ (Builtin.SmallTypes.ownedTupleIsFree (.ref e) >>= _) _ _ ⟨g4,g,d,tk+1,os⟩
 rw [hsz]
 refine aa ?_;unfold Builtin.SmallTypes.ownedTupleIsFree
 refine aa (wpAny_field e4 rfl (x:= .none) rfl (ae ?_));simp only [if_true]
 refine aa (wpAny_rule (aa (wpAny_field e4 rfl (x:=old) rfl (aa (wpAny_setField_rec e4 (by simp) fun g5 e5 s5=> ?_)))))
 replace s5:Heap.SameBut e g4 g5:=s5
 replace e5:IsEnum g5 e it ((i:Int)+1) x:=e5
 show wpAny _ _ (Builtin.SmallTypes.ownedTupleHandOut (.ref e) (.ref hp.objs.size) >>= _) _ _ ⟨g5,g,d,tk+1,os⟩
 refine aa ?_;unfold Builtin.SmallTypes.ownedTupleHandOut
 refine aa (wpAny_setField_rec e5 (by simp) fun g6 e6 s6=> ?_)
 replace s6:Heap.SameBut e g5 g6:=s6
 replace e6:IsEnumOut g6 e it ((i:Int)+1) x hp.objs.size:=e6
 refine wpAny_setField_rec e6 (by simp) fun g7 e7 s7=> ?_
 replace s7:Heap.SameBut e g6 g7:=s7
 replace e7:IsEnumOut g7 e it ((i:Int)+1) x hp.objs.size:=e7
 have up: ∀ b o,b≠e->g4.get? b=some o->g7.get? b=some o:=fun b o n q=>(s7.2 b n).trans ((s6.2 b n).trans ((s5.2 b n).trans q))
 refine aa (wpAny_letGo (ae ⟨_,rfl,ae (hQ g7 e7 (hk g4 g7 i4 fun o q=>up it o hne.symm q) (up _ _ (Nat.ne_of_gt le) t4) ?_ fun b o n1 n2 q=>up b o n1 (k4 b o n1 n2 q))⟩))
 rw [s7.1,s6.1,s5.1,z4]
theorem u6 {e it:Addr} {i:Nat} {old:Value} {Q:Option Value->Shared->Prop} (he:IsEnum s.heap e it i old)
  (hn: ∀ (A':Around) (E':Value->Shared->Prop) (Q':Value->Shared->Prop),A'.handled=A.handled->(∀ h' x,Heap.ExtBut it s.heap h'->(∃ o,h'.get? x=some o/\o.cls= .type "StopIteration")->E' (.ref x) { s with heap:=h' })->wpAny (model prog w) A' (Builtin.SmallTypes.nextOf (.ref it)) Q' E' s)
  (hQ: ∀ h',Heap.ExtBut it s.heap h'->Q none { s with heap:=h' }):wpAny (model prog w) A (pyNext (.ref e)) Q Ex s:=by
 have hT:s.TypeIs (.ref e) "enumerate":=⟨_,he,rfl⟩
 unfold pyNext
 refine aa (wpAny_attempt (wpAny_callSpecial?_slot (name:=Str.ofString "__next__") hT F.slot_enumerate_next (wpAny_call_entry F.slot_enumerate_next hT F.entry_enumerate_next ?_ (F.args_enumerate_next_1 _))))
 show wpAny _ _ (field (.ref e) 2 >>= _) _ _ _
 refine aa (wpAny_field he rfl (x:= .ref it) rfl (aa (hn _ _ _ rfl fun h' x k q=> ?_)))
 obtain⟨o,ho,hc⟩:=q
 exact aa (wpAny_isInstance (T:="StopIteration") (b:=true) ⟨o,ho,hc⟩ isSubtype_stop (ae (hQ _ k)))
end
noncomputable abbrev eh (h:Heap) (T:String) (l:Addr):Heap:=(h.push { cls:= .type T,data:= .fields #[.ref l, .int 0 0] }).push { cls:= .type "enumerate",data:= .fields #[.none, .bool false, .ref h.objs.size,rawInt 0, .none, .none] }
open AutoSeq1 (wpAny_loadPart') in
theorem u7 (l:Addr) (xs:Array Value) (n:Nat) (dd:Option Addr) (sl:Array (Option Value)):Meets (Builtin.«enumerate.__new__» ⟨[.type "enumerate", .ref l],[]⟩) (fun _ R s=>s.heap.get? l=some { cls:= .type "tuple",dict:=dd,data:= .seq xs n,slots:=sl }/\
  R (.ok (.ret (.ref (s.heap.objs.size+1)))) { s with heap:=eh s.heap "tuple_iterator" l }):=
 .of_wp fun prog w A R s h=>by
  obtain⟨hp,g,d,tk,os⟩:=s
  obtain⟨hl,h⟩:=h
  have hsub:=sub_enumerate
  have q1:Heap.IsTuple (Shared.heap ⟨hp,g,d,tk,os⟩) l xs:=⟨_,hl,rfl,n,rfl⟩
  rw [<-show(hp.push { cls:= .type "tuple_iterator",data:= .fields #[.ref l, .int 0 0] }).objs.size=hp.objs.size+1 from ai ..] at h
  wp_walk using wpAny_loadPart' hl
  refine wpAny_stack_any fun st=>ae ?_
  split
  ·rename_i c _ _ _ _ _
   cases (c==Value.type "enumerate")
   ·wp_walk using wpAny_loadPart' hl,wpAny_pyIter_tuple q1
    exact⟨_,rfl,h⟩
   ·wp_walk using wpAny_loadPart' hl,wpAny_pyIter_tuple q1
    exact⟨_,rfl,h⟩
  ·wp_walk using wpAny_loadPart' hl,wpAny_pyIter_tuple q1
   exact⟨_,rfl,h⟩
open AutoSeq1 (wpAny_loadPart') in
theorem u8 (l:Addr) (xs:Array Value) (n:Nat) (dd:Option Addr) (sl:Array (Option Value)):Meets (Builtin.«enumerate.__new__» ⟨[.type "enumerate", .ref l],[]⟩) (fun _ R s=>s.heap.get? l=some { cls:= .type "list",dict:=dd,data:= .seq xs n,slots:=sl }/\
  R (.ok (.ret (.ref (s.heap.objs.size+1)))) { s with heap:=eh s.heap "list_iterator" l }):=
 .of_wp fun prog w A R s h=>by
  obtain⟨hp,g,d,tk,os⟩:=s
  obtain⟨hl,h⟩:=h
  have hsub:=sub_enumerate
  have q1:Heap.IsList (Shared.heap ⟨hp,g,d,tk,os⟩) l xs:=⟨_,hl,rfl,n,rfl⟩
  rw [<-show(hp.push { cls:= .type "list_iterator",data:= .fields #[.ref l, .int 0 0] }).objs.size=hp.objs.size+1 from ai ..] at h
  wp_walk using wpAny_loadPart' hl
  refine wpAny_stack_any fun st=>ae ?_
  split
  ·rename_i c _ _ _ _ _
   cases (c==Value.type "enumerate")
   ·wp_walk using wpAny_loadPart' hl,wpAny_pyIter_list q1
    exact⟨_,rfl,h⟩
   ·wp_walk using wpAny_loadPart' hl,wpAny_pyIter_list q1
    exact⟨_,rfl,h⟩
  ·wp_walk using wpAny_loadPart' hl,wpAny_pyIter_list q1
   exact⟨_,rfl,h⟩
section
variable {prog:Program} {w:World} {A:Around} {Ex:Value->Shared->Prop} {s:Shared}
theorem rV {l:Addr} {xs:Array Value} {Q:Value->Shared->Prop} (hl:s.heap.IsTuple l xs)
  (h: ∀ h',IsEnum h' (s.heap.objs.size+1) s.heap.objs.size 0 .none->h'.IsTupleIter s.heap.objs.size l 0->h'.objs.size=s.heap.objs.size+2->(∀ b o,s.heap.get? b=some o->h'.get? b=some o)->Q (.ref (s.heap.objs.size+1)) { s with heap:=h' }):
  wpAny (model prog w) A (call (.type "enumerate") [.ref l]) Q Ex s:=by
 obtain⟨⟨c,dd,da,sl⟩,e1,e2,n,e3⟩:=hl
 simp only at e2 e3;subst e2 e3
 refine callType_new F.called_enumerate (by decide) (F.typeCall_enumerate_1 _) (F.newCall_enumerate_1 _) (fun obj=>F.args_object_init_2 obj _) F.entry_enumerate_new (u7 l xs n dd sl) ⟨e1, ?_⟩
 have hz:(s.heap.push { cls:= .type "tuple_iterator",data:= .fields #[.ref l, .int 0 0] }).objs.size=s.heap.objs.size+1:=ai ..
 have he:IsEnum (eh s.heap "tuple_iterator" l) (s.heap.objs.size+1) s.heap.objs.size 0 .none:=by rw [<-hz];exact ag _ rfl
 exact⟨⟨_,he,rfl⟩,h _ he ⟨_,af _ (ag _ rfl),rfl,rfl⟩ (by rw [ai,hz]) fun b o x=>af _ (af _ x)⟩
theorem rW {l:Addr} {xs:Array Value} {Q:Value->Shared->Prop} (hl:s.heap.IsList l xs)
  (h: ∀ h',IsEnum h' (s.heap.objs.size+1) s.heap.objs.size 0 .none->h'.IsListIter s.heap.objs.size l 0->h'.objs.size=s.heap.objs.size+2->(∀ b o,s.heap.get? b=some o->h'.get? b=some o)->Q (.ref (s.heap.objs.size+1)) { s with heap:=h' }):
  wpAny (model prog w) A (call (.type "enumerate") [.ref l]) Q Ex s:=by
 obtain⟨⟨c,dd,da,sl⟩,e1,e2,n,e3⟩:=hl
 simp only at e2 e3;subst e2 e3
 refine callType_new F.called_enumerate (by decide) (F.typeCall_enumerate_1 _) (F.newCall_enumerate_1 _) (fun obj=>F.args_object_init_2 obj _) F.entry_enumerate_new (u8 l xs n dd sl) ⟨e1, ?_⟩
 have hz:(s.heap.push { cls:= .type "list_iterator",data:= .fields #[.ref l, .int 0 0] }).objs.size=s.heap.objs.size+1:=ai ..
 have he:IsEnum (eh s.heap "list_iterator" l) (s.heap.objs.size+1) s.heap.objs.size 0 .none:=by rw [<-hz];exact ag _ rfl
 exact⟨⟨_,he,rfl⟩,h _ he ⟨_,af _ (ag _ rfl),rfl,rfl⟩ (by rw [ai,hz]) fun b o x=>af _ (af _ x)⟩
end
def SqA (t:Bool) (K:PySem.W.Frag) (H:Hp) (a:Addr) (xs:List V):Prop:=match t with
 | true=>SqT K H a xs
 | false=>SqL K H a xs
def ItA (t:Bool) (h:Heap) (it l:Addr) (i:Nat):Prop:=match t with
 | true=>h.IsTupleIter it l i
 | false=>h.IsListIter it l i
def SeA (t:Bool) (h:Heap) (l:Addr) (xs:Array Value):Prop:=match t with
 | true=>h.IsTuple l xs
 | false=>h.IsList l xs
section
variable {X:Cx} {pins:List (Addr×Obj)} {σ:L2.St} {H:Hp} {s:Shared} {t:Bool}
theorem d9 {a:Addr} {xs:List V} (I:Inv X pins σ H s) (h:SqA t X.K H a xs): ∃ its:List Value,aY xs its/\SeA t s.heap a its.toArray/\xs.length<=sizeLine:=by
 cases t with
 | true=>
  obtain⟨its,r,p,z⟩:=I.tuple h
  exact⟨its,r,p,z⟩
 | false=>
  obtain⟨its,r,p,z⟩:=I.list h
  exact⟨its,r,p.isList,z⟩
theorem fN {a:Addr} {xs ys:List V} (I:Inv X pins σ H s) (h:SqA t X.K H a xs) (h':SqA t X.K H a ys):xs=ys:=by
 cases t with
 | true=>exact I.tuple_inj h h'
 | false=>exact I.list_inj h h'
theorem aG {K:PySem.W.Frag} {H H':Hp} {a:Addr} {xs:List V} (e:Same H H') (h:SqA t K H a xs):SqA t K H' a xs:=by
 cases t with
 | true=>exact e.seqT h
 | false=>exact e.seq h
theorem cE {h h':Heap} {it l:Addr} {i:Nat} (q:ItA t h it l i) (k: ∀ o,h.get? it=some o->h'.get? it=some o):ItA t h' it l i:=by
 cases t with
 | true=>obtain⟨o,e,r⟩:=q;exact⟨o,k o e,r⟩
 | false=>obtain⟨o,e,r⟩:=q;exact⟨o,k o e,r⟩
theorem u9 {h:Heap} {it l:Addr} {i:Nat} (q:ItA t h it l i): ∃ o,h.get? it=some o/\ ∀ v,o.data≠ .cell v:=by
 cases t with
 | true=>obtain⟨o,e,_,d⟩:=q;exact⟨o,e,fun v z=>by rw [d] at z;cases z⟩
 | false=>obtain⟨o,e,_,d⟩:=q;exact⟨o,e,fun v z=>by rw [d] at z;cases z⟩
theorem eX {prog:Program} {w:World} {A:Around} {Ex:Value->Shared->Prop} {it l:Addr} {i:Nat} {xs:Array Value} {x:Value} {Q:Value->Shared->Prop} (q:ItA t s.heap it l i) (hl:SeA t s.heap l xs) (hx:xs[i]? =some x)
  (hQ: ∀ h',ItA t h' it l (i+1)->Heap.SameBut it s.heap h'->Q x { s with heap:=h' }):wpAny (model prog w) A (Builtin.SmallTypes.nextOf (.ref it)) Q Ex s:=by
 cases t with
 | true=>exact rS q hl hx hQ
 | false=>exact wpAny_nextOf_list_item q hl hx hQ
theorem iX {prog:Program} {w:World} {A:Around} {Ex:Value->Shared->Prop} {it l:Addr} {i:Nat} {xs:Array Value} {Q:Value->Shared->Prop} (hh:A.handled=none) (q:ItA t s.heap it l i) (hl:SeA t s.heap l xs) (hx:xs[i]? =none)
  (hE: ∀ h' e,Heap.ExtBut it s.heap h'->(∃ o,h'.get? e=some o/\o.cls= .type "StopIteration")->Ex (.ref e) { s with heap:=h' }):wpAny (model prog w) A (Builtin.SmallTypes.nextOf (.ref it)) Q Ex s:=by
 cases t with
 | true=>exact uY hh q hl hx hE
 | false=>exact wpAny_nextOf_list_end hh q hl hx hE
end
noncomputable def Ite (t:Bool) (K:PySem.W.Frag) (l:Addr):It:=
 ⟨fun i H=> ∃ xs x,SqA t K H l xs/\xs[i]? =some x,
  fun i H v H'=> ∃ p x,H p=none/\v= .ref p/\(∀ xs,SqA t K H l xs->xs[i]? =some x)/\H'=upd H p (.tup [.int i,x]),
  fun i H=> ∃ xs,SqA t K H l xs/\xs.length<=i⟩
theorem vA {P:Program} {w:World} {K:PySem.W.Frag} {es:List Expr} {x1} {tp:Pos} {t:Bool} {e it l:Addr} (hne:e≠it):
  Turn P w K (.Tuple es x1 tp) (Ite t K l) [e,it] e (fun i h=>(∃ old,IsEnum h e it i old)/\ItA t h it l i) where
 mem:=by simp
 obj:=fun i h st b hb=>by
  obtain⟨⟨old,z1⟩,z2⟩:=st
  simp only [au,List.not_mem_nil,or_false] at hb
  rcases hb with rfl | rfl
  ·exact⟨_,z1,fun v e=>by cases e⟩
  ·exact u9 z2
 keep:=fun i h h' st k=>by
  obtain⟨⟨old,z1⟩,z2⟩:=st
  exact⟨⟨old,k _ (by simp) _ z1⟩,cE z2 fun o q=>k _ (by simp) o q⟩
 item:=by
  intro X hP hw hK hc i pins s σ H E I hf st hg
  subst hP hw hK
  obtain⟨xs,x,q1,hx⟩:=hg
  obtain⟨us,r1,p1,_⟩:=d9 I q1
  obtain⟨u,hu,ru⟩:=r1.get hx
  obtain⟨⟨old,z1⟩,z2⟩:=st
  have te:e<s.heap.objs.size:=ah z1
  have ti:it<s.heap.objs.size:=by obtain⟨o,q,_⟩:=u9 z2;exact ah q
  refine rT (It:=fun h j=>ItA t h it l j) (x:=u) z1 hne (fun A' E' Q' hq=>eX z2 p1 (by simpa using hu) hq) (fun h h' a k=>cE a k) fun h' a1 a2 a3 a4 a5=>⟨_,rfl, ?_⟩
  have hfr:H s.heap.objs.size=none:=I.hok.fresh (aj _)
  have Ia:Inv X pins σ (upd H s.heap.objs.size (.tup [.int i,x])) { s with heap:=s.heap.push { cls:= .type "tuple",data:= .seq #[.int i s.toks,u] },toks:=s.toks+1 }:=
   I.laid (t':=s.toks+1) (fun b o e=>af _ e) (aj _) (show ObjOk X.prog X.w _ _ _ (.tup [.int i,x]) from⟨by rw [sizeLine_eq];simp,[.int i s.toks,u], .cons ⟨_,rfl⟩ (.cons ru .nil),⟨_,ag _ rfl,rfl,_,rfl⟩,⟨_,ag _ rfl,rfl⟩⟩)
  have hnew: ∀ b∈[e,it],b≠s.heap.objs.size:=fun b hb=>by
   simp only [au,List.not_mem_nil,or_false] at hb
   rcases hb with rfl | rfl
   ·exact bh te
   ·exact bh ti
  have hf2: ∀ b∈[e,it],nR X pins (upd H s.heap.objs.size (.tup [.int i,x])) b:=fun b hb=>⟨by rw [aA (hnew b hb)];exact(hf b hb).1,(hf b hb).2⟩
  have Ib:Inv X pins σ (upd H s.heap.objs.size (.tup [.int i,x])) { s with heap:=h',toks:=s.toks+1 }:=by
   refine dW (s:={ s with heap:=s.heap.push { cls:= .type "tuple",data:= .seq #[.int i s.toks,u] },toks:=s.toks+1 }) (t':=s.toks+1) Ia (fun b o hb q=> ?_) hf2
   simp only [au,List.not_mem_nil,or_false,not_or] at hb
   by_cases hq:b=s.heap.objs.size
   ·subst hq
    rw [show(s.heap.push { cls:= .type "tuple",data:= .seq #[.int i s.toks,u] }).get? s.heap.objs.size=some _ from ag _ rfl] at q
    cases q
    exact a3
   ·exact a5 b o hb.1 hb.2 ((Heap.get?_push_ne _ b _ hq).symm.trans q)
  refine wpAny_letOwnedTupleGo_enum a1 fun h2 b1 b2=> ?_
  have Ic:Inv X pins σ (upd H s.heap.objs.size (.tup [.int i,x])) { s with heap:=h2,toks:=s.toks+1 }:=dW (s:={ s with heap:=h',toks:=s.toks+1 }) (t':=s.toks+1) Ib (fun b o hb q=>(b2.2 b (fun z=>hb (by simp [z]))).trans q) hf2
  refine⟨.ref s.heap.objs.size,_,Ic,rfl,⟨_,x,hfr,rfl,fun xs' hx'=>by rw [fN I hx' q1];exact hx,rfl⟩,⟨⟨u, ?_⟩,cE a2 fun o q=>(b2.2 it hne.symm).trans q⟩,fun b hb=>(hf2 b hb).1⟩
  rw [Int.natCast_add];exact b1
 done:=by
  intro X hP hw hK hc i pins s σ H E I hf st hg
  subst hP hw hK
  obtain⟨xs,q1,hx⟩:=hg
  obtain⟨us,r1,p1,_⟩:=d9 I q1
  obtain⟨⟨old,z1⟩,z2⟩:=st
  have n1:=r1.length
  refine u6 z1 (fun A' E' Q' ha hq=>iX (ha.trans (I.ok.hd hc)) z2 p1 (by simp;omega) hq) fun h' k=>⟨rfl,dW (t':=s.toks) I (fun b o hb q=> ?_) hf⟩
  simp only [au,List.not_mem_nil,or_false,not_or] at hb
  exact k b o hb.2 q
 self:=fun _ _ _ _ _ st h=>by
  obtain⟨⟨old,z1⟩,_⟩:=st
  exact wpAny_pyIter_enum z1 h
theorem rX {prog:Program} {w:World} {A:Around} {Ex:Value->Shared->Prop} {s:Shared} {t:Bool} {l:Addr} {xs:Array Value} {Q:Value->Shared->Prop} (hl:SeA t s.heap l xs)
  (h: ∀ h',IsEnum h' (s.heap.objs.size+1) s.heap.objs.size 0 .none->ItA t h' s.heap.objs.size l 0->h'.objs.size=s.heap.objs.size+2->(∀ b o,s.heap.get? b=some o->h'.get? b=some o)->Q (.ref (s.heap.objs.size+1)) { s with heap:=h' }):
  wpAny (model prog w) A (call (.type "enumerate") [.ref l]) Q Ex s:=by
 cases t with
 | true=>exact rV hl h
 | false=>exact rW hl h
theorem vB {t:Bool} {h h':Heap} {l:Addr} {it:Array Value} (q:SeA t h l it) (k: ∀ o,h.get? l=some o->h'.get? l=some o):SeA t h' l it:=by
 cases t with
 | true=>obtain⟨o,e1,e2⟩:=q;exact⟨o,k o e1,e2⟩
 | false=>obtain⟨o,e1,e2⟩:=q;exact⟨o,k o e1,e2⟩
theorem lA {t:Bool} {h:Heap} {it l:Addr} {k:Nat} (x:ItA t h it l k): ∃ o,h.get? it=some o/\o.data= .fields #[.ref l, .int k 0]:=by
 cases t with
 | true=>obtain⟨o,a,_,c⟩:=x;exact⟨o,a,c⟩
 | false=>obtain⟨o,a,_,c⟩:=x;exact⟨o,a,c⟩
section
variable {prog:Program} {w:World} {A:Around} {Ex:Value->Shared->Prop} {s:Shared} {t t2:Bool}
theorem vC {z TI TO i1 i2 l1 l2:Addr} {k1 k2:Nat} {xs ys:Array Value} {x y a b:Value} {Q:Option Value->Shared->Prop} (D:ZipApart z TI TO i1 i2 l1 l2) (hz:IsZip s.heap z TI TO .none) (hTI:IsPair s.heap TI (.ref i1) (.ref i2)) (hTO:IsPair s.heap TO a b)
  (h1:ItA t s.heap i1 l1 k1) (h2:ItA t2 s.heap i2 l2 k2) (hl1:SeA t s.heap l1 xs) (hl2:SeA t2 s.heap l2 ys) (hx:xs[k1]? =some x) (hy:ys[k2]? =some y)
  (hQ: ∀ h',IsZip h' z TI TO (rawInt s.heap.objs.size)->IsPair h' TO x y->ItA t h' i1 l1 (k1+1)->ItA t2 h' i2 l2 (k2+1)->IsPair h' s.heap.objs.size x y->h'.objs.size=s.heap.objs.size+1->
   (∀ c o,c≠z->c≠TO->c≠i1->c≠i2->s.heap.get? c=some o->h'.get? c=some o)->Q (some (.ref s.heap.objs.size)) { s with heap:=h' }):wpAny (model prog w) A (pyNext (.ref z)) Q Ex s:=by
 have hT:s.TypeIs (.ref z) "zip":=⟨_,hz,rfl⟩
 have isT: ∀ {t:Bool} {h h':Heap} {it l:Addr} {k:Nat} {c:Addr},ItA t h it l k->Heap.SameBut c h h'->it≠c->ItA t h' it l k:=fun q sb ne=>cE q fun o e=>(sb.2 _ ne).trans e
 have isU: ∀ {t:Bool} {h h':Heap} {l:Addr} {it:Array Value} {c:Addr},SeA t h l it->Heap.SameBut c h h'->l≠c->SeA t h' l it:=fun q sb ne=>vB q fun o e=>(sb.2 _ ne).trans e
 unfold pyNext
 refine aa (wpAny_attempt (wpAny_callSpecial?_slot (name:=Str.ofString "__next__") hT F.slot_zip_next (wpAny_call_entry F.slot_zip_next hT F.entry_zip_next ?_ (F.args_zip_next_1 _))))
 show wpAny _ _ (field (.ref z) 2 >>= _) _ _ _
 refine aa (wpAny_field hz rfl (x:= .bool false) rfl ?_)
 show wpAny _ _ (field (.ref z) 3 >>= _) _ _ _
 refine aa (wpAny_field hz rfl (x:= .ref TI) rfl (aa (wpAny_seqItems hTI rfl ?_)))
 show wpAny _ _ (Builtin.SmallTypes.ownedTupleIsFree (.ref z) >>= _) _ _ _
 refine aa ?_;unfold Builtin.SmallTypes.ownedTupleIsFree
 refine aa (wpAny_field hz rfl (x:= .none) rfl (ae ?_));simp only [if_true]
 refine aa (wpAny_rule (aa (wpAny_field hz rfl (x:= .ref TO) rfl (aa (wpAny_setField_rec hz (by simp) fun g1 z1 s1=> ?_)))))
 replace z1:IsZip g1 z TI TO .ellipsis:=z1
 refine aa ?_;simp only [List.zipIdx_cons,List.zipIdx_nil,List.forIn_cons,List.forIn_nil]
 refine aa (aa (wpAny_onRaise ?_));show wpAny _ _ (Builtin.SmallTypes.nextOf (.ref i1) >>= _) _ _ _
 refine aa (eX (isT h1 s1 D.i1z) (isU hl1 s1 D.l1z) hx fun g2 p2 s2=>ae ?_)
 have o2:IsPair g2 TO a b:=(s2.2 _ D.TOi1).trans ((s1.2 _ D.TOz).trans hTO)
 refine aa (wpAny_seqItems o2 rfl (aa (wpAny_updateSeq_pair o2 fun g3 o3 s3=> ?_)))
 replace o3:IsPair g3 TO x b:=o3
 refine aa (wpAny_letGo (ae (aa (aa (wpAny_onRaise ?_)))));show wpAny _ _ (Builtin.SmallTypes.nextOf (.ref i2) >>= _) _ _ _
 refine aa (eX (isT (isT (isT h2 s1 D.i2z) s2 D.i12.symm) s3 D.TOi2.symm) (isU (isU (isU hl2 s1 D.l2z) s2 D.l2i1) s3 D.l2TO) hy fun g4 p4 s4=>ae ?_)
 have o4:IsPair g4 TO x b:=(s4.2 _ D.TOi2).trans o3
 refine aa (wpAny_seqItems o4 rfl (aa (wpAny_updateSeq_pair o4 fun g5 o5 s5=> ?_)))
 replace o5:IsPair g5 TO x y:=o5
 refine aa (wpAny_letGo (ae (ae (aa (wpAny_seqItems o5 rfl (aa (wpAny_newTuple ?_)))))))
 have hsz:g5.objs.size=s.heap.objs.size:=by rw [s5.1,s4.1,s3.1,s2.1,s1.1]
 have z5:IsZip g5 z TI TO .ellipsis:=(s5.2 _ D.TOz.symm).trans ((s4.2 _ D.i2z.symm).trans ((s3.2 _ D.TOz.symm).trans ((s2.2 _ D.i1z.symm).trans z1)))
 have k5: ∀ c o,c≠z->c≠TO->c≠i1->c≠i2->s.heap.get? c=some o->g5.get? c=some o:=fun c o c1 c2 c3 c4 e=>(s5.2 _ c2).trans ((s4.2 _ c4).trans ((s3.2 _ c2).trans ((s2.2 _ c3).trans ((s1.2 _ c1).trans e))))
 have q1:ItA t g5 i1 l1 (k1+1):=isT (isT (isT p2 s3 D.TOi1.symm) s4 D.i12) s5 D.TOi1.symm
 have q2:ItA t2 g5 i2 l2 (k2+1):=isT p4 s5 D.TOi2.symm
 have lz:z<g5.objs.size:=ah z5
 show wpAny _ _ (Builtin.SmallTypes.ownedTupleHandOut (.ref z) (.ref g5.objs.size) >>= _) _ _ _
 refine aa ?_;unfold Builtin.SmallTypes.ownedTupleHandOut
 have z6:IsZip (g5.push { cls:= .type "tuple",data:= .seq #[x,y] }) z TI TO .ellipsis:=af _ z5
 refine aa (wpAny_setField_rec z6 (by simp) fun g7 z7 s7=> ?_)
 replace z7:IsZip g7 z TI TO (rawInt g5.objs.size):=z7
 refine wpAny_setField_rec z7 (by simp) fun g8 z8 s8=> ?_
 replace z8:IsZip g8 z TI TO (rawInt g5.objs.size):=z8
 have up: ∀ c o,c≠z->g5.get? c=some o->g8.get? c=some o:=fun c o c1 e=>(s8.2 _ c1).trans ((s7.2 _ c1).trans (af _ e))
 have t8:IsPair g8 g5.objs.size x y:=(s8.2 _ (Nat.ne_of_gt lz)).trans ((s7.2 _ (Nat.ne_of_gt lz)).trans (ag _ rfl))
 have n8:g8.objs.size=g5.objs.size+1:=by rw [s8.1,s7.1,ai]
 rw [hsz] at z8 t8 n8
 refine ae ⟨_,rfl,ae ?_⟩
 show Q (some (.ref g5.objs.size)) _;rw [hsz]
 refine hQ g8 z8 (up _ _ D.TOz o5) ?_ ?_ t8 n8 fun c o c1 c2 c3 c4 e=>up c o c1 (k5 c o c1 c2 c3 c4 e)
 ·exact cE q1 fun o e=>up _ o D.i1z e
 ·exact cE q2 fun o e=>up _ o D.i2z e
theorem yO {z TI TO i1 i2 l1 l2:Addr} {k1 k2:Nat} {xs ys:Array Value} {a b:Value} {Q:Option Value->Shared->Prop} (hh:A.handled=none) (D:ZipApart z TI TO i1 i2 l1 l2) (hz:IsZip s.heap z TI TO .none) (hTI:IsPair s.heap TI (.ref i1) (.ref i2)) (hTO:IsPair s.heap TO a b)
  (h1:ItA t s.heap i1 l1 k1) (h2:ItA t2 s.heap i2 l2 k2) (hl1:SeA t s.heap l1 xs) (hl2:SeA t2 s.heap l2 ys) (he:xs[k1]? =none\/ys[k2]? =none)
  (hQ: ∀ h',(∀ c o,c≠z->c≠TO->c≠i1->c≠i2->s.heap.get? c=some o->h'.get? c=some o)->Q none { s with heap:=h' }):wpAny (model prog w) A (pyNext (.ref z)) Q Ex s:=by
 have hT:s.TypeIs (.ref z) "zip":=⟨_,hz,rfl⟩
 have isT: ∀ {t:Bool} {h h':Heap} {it l:Addr} {k:Nat} {c:Addr},ItA t h it l k->Heap.SameBut c h h'->it≠c->ItA t h' it l k:=fun q sb ne=>cE q fun o e=>(sb.2 _ ne).trans e
 have isU: ∀ {t:Bool} {h h':Heap} {l:Addr} {it:Array Value} {c:Addr},SeA t h l it->Heap.SameBut c h h'->l≠c->SeA t h' l it:=fun q sb ne=>vB q fun o e=>(sb.2 _ ne).trans e
 unfold pyNext
 have fin: ∀ (h':Heap) (e:Addr),(∀ c o,c≠z->c≠TO->c≠i1->c≠i2->s.heap.get? c=some o->h'.get? c=some o)->(∃ o,h'.get? e=some o/\o.cls= .type "StopIteration")->wpAny (model prog w) A (do if(<-isInstance (.ref e) (.type "StopIteration"))=true then pure none else throw (.ref e)) Q Ex { s with heap:=h' }:=fun h' e kk he=>by
  obtain⟨o,ho,hc⟩:=he
  exact aa (wpAny_isInstance (T:="StopIteration") (b:=true) ⟨o,ho,hc⟩ isSubtype_stop (ae (hQ _ kk)))
 refine aa (wpAny_attempt (wpAny_callSpecial?_slot (name:=Str.ofString "__next__") hT F.slot_zip_next (wpAny_call_entry F.slot_zip_next hT F.entry_zip_next ?_ (F.args_zip_next_1 _))))
 show wpAny _ _ (field (.ref z) 2 >>= _) _ _ _
 refine aa (wpAny_field hz rfl (x:= .bool false) rfl ?_)
 show wpAny _ _ (field (.ref z) 3 >>= _) _ _ _
 refine aa (wpAny_field hz rfl (x:= .ref TI) rfl (aa (wpAny_seqItems hTI rfl ?_)))
 show wpAny _ _ (Builtin.SmallTypes.ownedTupleIsFree (.ref z) >>= _) _ _ _
 refine aa ?_;unfold Builtin.SmallTypes.ownedTupleIsFree
 refine aa (wpAny_field hz rfl (x:= .none) rfl (ae ?_));simp only [if_true]
 refine aa (wpAny_rule (aa (wpAny_field hz rfl (x:= .ref TO) rfl (aa (wpAny_setField_rec hz (by simp) fun g1 z1 s1=> ?_)))))
 replace z1:IsZip g1 z TI TO .ellipsis:=z1
 refine aa ?_;simp only [List.zipIdx_cons,List.zipIdx_nil,List.forIn_cons,List.forIn_nil]
 refine aa (aa (wpAny_onRaise ?_));show wpAny _ _ (Builtin.SmallTypes.nextOf (.ref i1) >>= _) _ _ _
 cases hx:xs[k1]? with
 | none=>
  refine aa (iX hh (isT h1 s1 D.i1z) (isU hl1 s1 D.l1z) hx fun g2 e s2 he=> ?_)
  obtain⟨oe,q1,q2⟩:=he
  have z2:IsZip g2 z TI TO .ellipsis:=s2 _ _ D.i1z.symm z1
  have ez:e≠z:=fun x=>by subst x;rw [z2] at q1;cases q1;simp at q2
  exact wpAny_setField_rec z2 (by simp) fun g3 _ s3=>fin g3 e (fun c o c1 _ c3 _ x=>(s3.2 _ c1).trans (s2 _ _ c3 ((s1.2 _ c1).trans x))) ⟨oe,(s3.2 _ ez).trans q1,q2⟩
 | some x=>
  have hy:ys[k2]? =none:=he.resolve_left fun h=>by rw [hx] at h;cases h
  refine aa (eX (isT h1 s1 D.i1z) (isU hl1 s1 D.l1z) hx fun g2 p2 s2=>ae ?_)
  have o2:IsPair g2 TO a b:=(s2.2 _ D.TOi1).trans ((s1.2 _ D.TOz).trans hTO)
  refine aa (wpAny_seqItems o2 rfl (aa (wpAny_updateSeq_pair o2 fun g3 o3 s3=> ?_)))
  refine aa (wpAny_letGo (ae (aa (aa (wpAny_onRaise ?_)))));show wpAny _ _ (Builtin.SmallTypes.nextOf (.ref i2) >>= _) _ _ _
  refine aa (iX hh (isT (isT (isT h2 s1 D.i2z) s2 D.i12.symm) s3 D.TOi2.symm) (isU (isU (isU hl2 s1 D.l2z) s2 D.l2i1) s3 D.l2TO) hy fun g4 e s4 he=> ?_)
  obtain⟨oe,q1,q2⟩:=he
  have z4:IsZip g4 z TI TO .ellipsis:=s4 _ _ D.i2z.symm ((s3.2 _ D.TOz.symm).trans ((s2.2 _ D.i1z.symm).trans z1))
  have ez:e≠z:=fun x=>by subst x;rw [z4] at q1;cases q1;simp at q2
  exact wpAny_setField_rec z4 (by simp) fun g5 _ s5=>fin g5 e (fun c o c1 c2 c3 c4 x=>(s5.2 _ c1).trans (s4 _ _ c4 ((s3.2 _ c2).trans ((s2.2 _ c3).trans ((s1.2 _ c1).trans x))))) ⟨oe,(s5.2 _ ez).trans q1,q2⟩
end
noncomputable def itC (t:Bool):String:=if t then "tuple_iterator" else "list_iterator"
noncomputable abbrev zg1 (t:Bool) (h:Heap) (l:Addr):Heap:=h.push { cls:= .type (itC t),data:= .fields #[.ref l, .int 0 0] }
noncomputable abbrev zg3 (t t2:Bool) (h:Heap) (l m:Addr):Heap:=(zg1 t2 (zg1 t h l) m).push { cls:= .type "tuple",data:= .seq #[.ref h.objs.size, .ref (zg1 t h l).objs.size] }
noncomputable abbrev zg4 (t t2:Bool) (h:Heap) (l m:Addr):Heap:=(zg3 t t2 h l m).push { cls:= .type "tuple",data:= .seq #[.none, .none] }
noncomputable abbrev zg5 (t t2:Bool) (h:Heap) (l m:Addr):Heap:=(zg4 t t2 h l m).push { cls:= .type "zip",data:= .fields #[.none, .bool false, .bool false, .ref (zg1 t2 (zg1 t h l) m).objs.size, .ref (zg3 t t2 h l m).objs.size] }
theorem yP (t t2:Bool) (l m:Addr) (xs ys:Array Value):Meets (Builtin.«zip.__new__» ⟨[.type "zip", .ref l, .ref m],[]⟩) (fun _ R s=>SeA t s.heap l xs/\SeA t2 s.heap m ys/\R (.ok (.ret (.ref (zg4 t t2 s.heap l m).objs.size))) { s with heap:=zg5 t t2 s.heap l m }):=
 .of_wp fun prog w A R s h=>by
  obtain⟨hp,g,d,tk,os⟩:=s
  obtain⟨t1,t2',h⟩:=h
  have hsub:=sub_zip
  cases t with
  | true=>
   have q1:Heap.IsTuple (Shared.heap ⟨hp,g,d,tk,os⟩) l xs:=t1
   cases t2 with
   | true=>
    have q2:Heap.IsTuple (Shared.heap ⟨hp.push { cls:= .type "tuple_iterator",data:= .fields #[.ref l, .int 0 0] },g,d,tk,os⟩) m ys:=Heap.IsTuple.push t2' _
    wp_walk using wpAny_pyIter_tuple q1,wpAny_pyIter_tuple q2
    exact⟨_,rfl,h⟩
   | false=>
    have q2:Heap.IsList (Shared.heap ⟨hp.push { cls:= .type "tuple_iterator",data:= .fields #[.ref l, .int 0 0] },g,d,tk,os⟩) m ys:=Heap.IsList.push t2' _
    wp_walk using wpAny_pyIter_tuple q1,wpAny_pyIter_list q2
    exact⟨_,rfl,h⟩
  | false=>
   have q1:Heap.IsList (Shared.heap ⟨hp,g,d,tk,os⟩) l xs:=t1
   cases t2 with
   | true=>
    have q2:Heap.IsTuple (Shared.heap ⟨hp.push { cls:= .type "list_iterator",data:= .fields #[.ref l, .int 0 0] },g,d,tk,os⟩) m ys:=Heap.IsTuple.push t2' _
    wp_walk using wpAny_pyIter_list q1,wpAny_pyIter_tuple q2
    exact⟨_,rfl,h⟩
   | false=>
    have q2:Heap.IsList (Shared.heap ⟨hp.push { cls:= .type "list_iterator",data:= .fields #[.ref l, .int 0 0] },g,d,tk,os⟩) m ys:=Heap.IsList.push t2' _
    wp_walk using wpAny_pyIter_list q1,wpAny_pyIter_list q2
    exact⟨_,rfl,h⟩
section
variable {prog:Program} {w:World} {A:Around} {Ex:Value->Shared->Prop} {s:Shared} {t t2:Bool}
theorem vD {t:Bool} {h:Heap} {it l:Addr} (e:h.get? it=some { cls:= .type (itC t),data:= .fields #[.ref l, .int 0 0] }):ItA t h it l 0:=by
 cases t with
 | true=>exact⟨_,e,rfl,rfl⟩
 | false=>exact⟨_,e,rfl,rfl⟩
theorem vE {l m:Addr} {xs ys:Array Value} {Q:Value->Shared->Prop} (t1:SeA t s.heap l xs) (t2':SeA t2 s.heap m ys)
  (h: ∀ h',IsZip h' (s.heap.objs.size+4) (s.heap.objs.size+2) (s.heap.objs.size+3) .none->IsPair h' (s.heap.objs.size+2) (.ref s.heap.objs.size) (.ref (s.heap.objs.size+1))->IsPair h' (s.heap.objs.size+3) .none .none->
   ItA t h' s.heap.objs.size l 0->ItA t2 h' (s.heap.objs.size+1) m 0->h'.objs.size=s.heap.objs.size+5->(∀ c o,s.heap.get? c=some o->h'.get? c=some o)->Q (.ref (s.heap.objs.size+4)) { s with heap:=h' }):
  wpAny (model prog w) A (call (.type "zip") [.ref l, .ref m]) Q Ex s:=by
 refine callType_new F.called_zip (by decide) (F.typeCall_zip_2 _ _) (F.newCall_zip_2 _ _) (fun obj=>F.args_object_init_3 obj _ _) F.entry_zip_new (yP t t2 l m xs ys) ⟨t1,t2', ?_⟩
 have n1:(zg1 t s.heap l).objs.size=s.heap.objs.size+1:=ai ..
 have n2:(zg1 t2 (zg1 t s.heap l) m).objs.size=s.heap.objs.size+2:=by rw [ai,n1]
 have n3:(zg3 t t2 s.heap l m).objs.size=s.heap.objs.size+3:=by rw [ai,n2]
 have n4:(zg4 t t2 s.heap l m).objs.size=s.heap.objs.size+4:=by rw [ai,n3]
 have n5:(zg5 t t2 s.heap l m).objs.size=s.heap.objs.size+5:=by rw [ai,n4]
 have up: ∀ {h:Heap} {o:Obj} {c:Addr} {x:Obj},h.get? c=some x->(h.push o).get? c=some x:=fun e=>af _ e
 have g5:(zg5 t t2 s.heap l m).get? (zg4 t t2 s.heap l m).objs.size=some _:=ag _ rfl
 have g4:(zg5 t t2 s.heap l m).get? (zg3 t t2 s.heap l m).objs.size=some _:=up (ag _ rfl)
 have g3:(zg5 t t2 s.heap l m).get? (zg1 t2 (zg1 t s.heap l) m).objs.size=some _:=up (up (ag _ rfl))
 have g2:(zg5 t t2 s.heap l m).get? (zg1 t s.heap l).objs.size=some _:=up (up (up (ag _ rfl)))
 have g1:(zg5 t t2 s.heap l m).get? s.heap.objs.size=some _:=up (up (up (up (ag _ rfl))))
 show _/\_
 rw [n2,n3,n4] at g5;rw [n1,n2] at g3;rw [n3] at g4;rw [n1] at g2;rw [n4]
 exact⟨⟨_,g5,rfl⟩,h _ g5 g3 g4 (vD g1) (vD g2) n5 fun c o x=>up (up (up (up (up x))))⟩
end
noncomputable def aBc (t t2:Bool) (K:PySem.W.Frag) (l m:Addr):It:=
 ⟨fun i H=> ∃ xs ys x y,SqA t K H l xs/\SqA t2 K H m ys/\xs[i]? =some x/\ys[i]? =some y,
  fun i H v H'=> ∃ p x y,H p=none/\v= .ref p/\(∀ xs,SqA t K H l xs->xs[i]? =some x)/\(∀ ys,SqA t2 K H m ys->ys[i]? =some y)/\H'=upd H p (.tup [x,y]),
  fun i H=> ∃ xs ys,SqA t K H l xs/\SqA t2 K H m ys/\(xs.length<=i\/ys.length<=i)⟩
theorem vF {t t2:Bool} {P:Program} {w:World} {K:PySem.W.Frag} {es:List Expr} {x1} {tp:Pos} {z TI TO i1 i2 l m:Addr} (D:ZipApart z TI TO i1 i2 l m):
  Turn P w K (.Tuple es x1 tp) (aBc t t2 K l m) [z,TI,TO,i1,i2] z (fun i h=>IsZip h z TI TO .none/\IsPair h TI (.ref i1) (.ref i2)/\(∃ a b,IsPair h TO a b)/\ItA t h i1 l i/\ItA t2 h i2 m i) where
 mem:=by simp
 obj:=fun i h st b hb=>by
  obtain⟨z1,z2,⟨a,c,z3⟩,y4,y5⟩:=st
  obtain⟨o4,z4,d4⟩:=lA y4
  obtain⟨o5,z5,d5⟩:=lA y5
  simp only [au,List.not_mem_nil,or_false] at hb
  rcases hb with rfl | rfl | rfl | rfl | rfl
  ·exact⟨_,z1,fun v e=>by cases e⟩
  ·exact⟨_,z2,fun v e=>by cases e⟩
  ·exact⟨_,z3,fun v e=>by cases e⟩
  ·exact⟨_,z4,fun v e=>by rw [d4] at e;cases e⟩
  ·exact⟨_,z5,fun v e=>by rw [d5] at e;cases e⟩
 keep:=fun i h h' st k=>by
  obtain⟨z1,z2,⟨a,c,z3⟩,y4,y5⟩:=st
  exact⟨k _ (by simp) _ z1,k _ (by simp) _ z2,⟨a,c,k _ (by simp) _ z3⟩,cE y4 fun o e=>k _ (by simp) o e,cE y5 fun o e=>k _ (by simp) o e⟩
 item:=by
  intro X hP hw hK hc i pins s σ H E I hf st hg
  subst hP hw hK
  obtain⟨xs,ys,x,y,q1,q2,hx,hy⟩:=hg
  obtain⟨us,r1,p1,_⟩:=d9 I q1
  obtain⟨vs,r2,p2,_⟩:=d9 I q2
  obtain⟨u,hu,ru⟩:=r1.get hx
  obtain⟨v,hv,rv⟩:=r2.get hy
  obtain⟨z1,z2,⟨a,c,z3⟩,z4,z5⟩:=st
  have tI:TI<s.heap.objs.size:=ah z2
  have tz:z<s.heap.objs.size:=ah z1
  have tO:TO<s.heap.objs.size:=ah z3
  have t4:i1<s.heap.objs.size:=by obtain⟨o,e,_⟩:=lA z4;exact ah e
  have t5:i2<s.heap.objs.size:=by obtain⟨o,e,_⟩:=lA z5;exact ah e
  refine vC D z1 z2 z3 z4 z5 p1 p2 (x:=u) (y:=v) (by simpa using hu) (by simpa using hv) fun h' a1 a2 a3 a4 a5 a6 a7=>⟨_,rfl, ?_⟩
  have hfr:H s.heap.objs.size=none:=I.hok.fresh (aj _)
  -- the pair, laid
  have Ia:Inv X pins σ (upd H s.heap.objs.size (.tup [x,y])) { s with heap:=s.heap.push { cls:= .type "tuple",data:= .seq #[u,v] } }:=
   I.laid (t':=s.toks) (fun b o e=>af _ e) (aj _) (show ObjOk X.prog X.w _ _ _ (.tup [x,y]) from⟨by rw [sizeLine_eq];simp,[u,v], .cons ru (.cons rv .nil),⟨_,ag _ rfl,rfl,_,rfl⟩,⟨_,ag _ rfl,rfl⟩⟩)
  have hne: ∀ b∈[z,TI,TO,i1,i2],b≠s.heap.objs.size:=fun b hb=>by
   simp only [au,List.not_mem_nil,or_false] at hb
   rcases hb with rfl | rfl | rfl | rfl | rfl
   ·exact bh tz
   ·exact bh tI
   ·exact bh tO
   ·exact bh t4
   ·exact bh t5
  have hf2: ∀ b∈[z,TI,TO,i1,i2],nR X pins (upd H s.heap.objs.size (.tup [x,y])) b:=fun b hb=>⟨by rw [aA (hne b hb)];exact(hf b hb).1,(hf b hb).2⟩
  have Ib:Inv X pins σ (upd H s.heap.objs.size (.tup [x,y])) { s with heap:=h' }:=by
   refine dW (s:={ s with heap:=s.heap.push { cls:= .type "tuple",data:= .seq #[u,v] } }) (t':=s.toks) Ia (fun b o hb e=> ?_) hf2
   simp only [au,List.not_mem_nil,or_false,not_or] at hb
   by_cases hq:b=s.heap.objs.size
   ·subst hq
    rw [show(s.heap.push { cls:= .type "tuple",data:= .seq #[u,v] }).get? s.heap.objs.size=some _ from ag _ rfl] at e
    cases e
    exact a5
   ·have e2:s.heap.get? b=some o:=by
     exact(Heap.get?_push_ne _ b _ hq).symm.trans e
    exact a7 b o hb.1 hb.2.2.1 hb.2.2.2.1 hb.2.2.2.2 e2
  refine wpAny_letOwnedTupleGo_zip a1 fun h2 b1 b2=> ?_
  have Ic:Inv X pins σ (upd H s.heap.objs.size (.tup [x,y])) { s with heap:=h2 }:=dW (s:={ s with heap:=h' }) (t':=s.toks) Ib (fun b o hb e=>(b2.2 b (fun q=>hb (by simp [q]))).trans e) hf2
  refine⟨.ref s.heap.objs.size,_,Ic,rfl,⟨_,x,y,hfr,rfl,fun xs' hx'=>by rw [fN I hx' q1];exact hx,fun ys' hy'=>by rw [fN I hy' q2];exact hy,rfl⟩,⟨b1, ?_,⟨u,v, ?_⟩, ?_, ?_⟩,fun b hb=>(hf2 b hb).1⟩
  ·exact(b2.2 _ D.TIz).trans (a7 _ _ D.TIz D.TITO D.TIi1 D.TIi2 z2)
  ·exact(b2.2 _ D.TOz).trans a2
  ·exact cE a3 fun o e=>(b2.2 _ D.i1z).trans e
  ·exact cE a4 fun o e=>(b2.2 _ D.i2z).trans e
 done:=by
  intro X hP hw hK hc i pins s σ H E I hf st hg
  subst hP hw hK
  obtain⟨xs,ys,q1,q2,hx⟩:=hg
  obtain⟨us,r1,p1,_⟩:=d9 I q1
  obtain⟨vs,r2,p2,_⟩:=d9 I q2
  obtain⟨z1,z2,⟨a,c,z3⟩,z4,z5⟩:=st
  have n1:=r1.length
  have n2:=r2.length
  refine yO (I.ok.hd hc) D z1 z2 z3 z4 z5 p1 p2 (hx.elim (fun h=> .inl (by simp;omega)) fun h=> .inr (by simp;omega)) fun h' k=>⟨rfl,dW (t':=s.toks) I (fun b o hb e=> ?_) hf⟩
  simp only [au,List.not_mem_nil,or_false,not_or] at hb
  exact k b o hb.1 hb.2.2.1 hb.2.2.2.1 hb.2.2.2.2 e
 self:=fun _ _ _ _ _ st h=>wpAny_pyIter_zip st.1 h
section
variable {X:Cx} {ad:Ad} {pins:List (Addr×Obj)} {s:Shared} {σ:St} {H G:Hp} {ρ:Rho} {Q:VK} {E:Nat->Hp->Prop} {pos p ap cp:Pos} {o a b c tg:Expr} {f g h:F}
theorem lB {f:F} {k:D->R} {W:It->Hp->Prop} {Q':VK} (hG:Same G H) (hS:SL X.K ad G H ρ σ) (hx:XP X ad σ E) (hr:IGK X ad G H ((f ρ).bind k) W E)
  (q: ∀ v d G1 H1,Step G H G1 H1->Rep X.K ad G1 d v->IGK X ad G1 H1 (k d) W E->Q' v H1):tE X ad f σ H Q':=by
 have ikst: ∀ {r:R} {G1 H1:Hp},IGK X ad G H r W E->Step G H G1 H1->IGK X ad G1 H1 r W E:=fun {r G1 H1} h st=>by
  cases r with
  | ok d=>obtain⟨ds,e,h⟩:=h;exact⟨ds,e,fun J G' H' st' hi=>h J G' H' (st.trans st') hi⟩
  | ow l=>exact fun J G' H' st' hi=>h J G' H' (st.trans st') hi
  | ex c=>exact fun G' H' st'=>h G' H' (st.trans st')
  | bad=>exact h
 refine⟨G,ρ,E,hG,hS,hx, ?_⟩
 cases e:f ρ with
 | ok d=>
  rw [e] at hr
  exact fun v G1 H1 st r=>q v d G1 H1 st r (ikst hr st)
 | ow xs=>
  rw [e] at hr
  intro p vs G1 H1 st n m e' r
  obtain⟨G2,st2,r2⟩:=bF (X:=X) (ad:=ad) st n m e' r
  exact q _ _ G2 H1 st2 r2 (ikst hr st2)
 | ex c=>
  rw [e] at hr
  exact hr
 | bad=>
  rw [e] at hr
  exact hr
noncomputable def iZp (K:PySem.W.Frag) (ta:TA):TI:=fun σ H R=>ta σ H fun vs H1=> ∃ t t2 l m xs ys,vs=[.ref l, .ref m]/\SqA t K H1 l xs/\SqA t2 K H1 m ys/\(xs.length<=sizeLine->R (aBc t t2 K l m) H1)
theorem aBd {es:List Expr} {kt} {tp:Pos} {ta:TA} (hg:L2.Gl X "zip") (hm:X.mg "zip"=none) (ha:PA X [a,b] ta) (he:starEach [a,b] X.env=(false,eval a X.env)::starEach [b] X.env) (he2:starEach [b] X.env=(false,eval b X.env)::starEach [] X.env):
  PI X (.Tuple es kt tp) (.Call (.Name "zip" p) [a,b] [] pos) (iZp X.K ta):=by
 intro pins s σ H R I h
 refine Call_ (fR (u:= .type "zip") I hg hm (by decide+kernel) (PyProof.Rows.callWith_type1 (L2.thn (ha pos pins s σ H _ I h) fun us s1 ⟨vs,H1,I1,r1,q1⟩=> ?_) he (by rw [he2];rfl)) (by decide) (by decide))
 obtain⟨t,t2,l,m,xs,ys,rfl,hq1,hq2,q⟩:=q1
 obtain⟨u,v,rfl,ru,rv⟩:=r1.two
 cases (show u=Value.ref l from ru)
 cases (show v=Value.ref m from rv)
 obtain⟨its,_,p1,z1⟩:=d9 I1 hq1
 obtain⟨its2,_,p2,_⟩:=d9 I1 hq2
 refine vE p1 p2 fun h' a1 a2 a3 a4 a5 a6 a7=>wpAny_pyIter_zip a1 ?_
 have l1:l<s1.heap.objs.size:=by cases t<;>(obtain⟨o,e,_⟩:=p1;exact ah e)
 have l2:m<s1.heap.objs.size:=by cases t2<;>(obtain⟨o,e,_⟩:=p2;exact ah e)
 refine⟨s1.heap.objs.size+4,[s1.heap.objs.size+4,s1.heap.objs.size+2,s1.heap.objs.size+3,s1.heap.objs.size,s1.heap.objs.size+1],_,aBc t t2 X.K l m,H1,rfl,I1.kept (t':=s1.toks) a7,vF (uZ l1 l2),⟨a1,a2,⟨_,_,a3⟩,a4,a5⟩,fun b hb=> ?_,q z1⟩
 have hb':s1.heap.objs.size<=b:=by
  simp only [au,List.not_mem_nil,or_false] at hb
  rcases hb with rfl | rfl | rfl | rfl | rfl
  ·exact Nat.le_add_right _ 4
  ·exact Nat.le_add_right _ 2
  ·exact Nat.le_add_right _ 3
  ·exact aj _
  ·exact Nat.le_add_right _ 1
 exact I1.fpOk hb' (I1.hok.fresh hb')
theorem aD0 {ds es:List D} {i:Nat} {d:D} (e:((ds.zip es).map fun p=>D.tup [p.1,p.2])[i]? =some d): ∃ x y,ds[i]? =some x/\es[i]? =some y/\d= .tup [x,y]:=by
 rw [List.getElem?_map] at e
 cases q:(ds.zip es)[i]? with
 | none=>rw [q] at e;cases e
 | some p=>
  rw [q] at e
  rw [List.getElem?_zip_eq_some] at q
  exact⟨p.1,p.2,q.1,q.2,(Option.some.inj e).symm⟩
noncomputable def isA:Bool->List D->D->Prop
 | true,ds,d=>d= .tup ds
 | false,ds,d=>d= .lst ds
theorem lC {t:Bool} {G1:Hp} {d:D} {v:V} {ds:List D} (c:isA t ds d) (r:Rep X.K ad G1 d v): ∃ l vs,v= .ref l/\SqA t X.K G1 l vs/\aF X.K ad G1 ds vs:=by
 cases t with
 | true=>cases c;unfold Rep at r;exact r
 | false=>cases c;unfold Rep at r;exact r
theorem qB {t t2:Bool} {G1 H1 H2:Hp} {l m:Addr} {i:Nat} {vs ws:List V} {ds es:List D} {d:D} {x:V} (h1:SqA t X.K G1 l vs) (r1:aF X.K ad G1 ds vs) (h2:SqA t2 X.K G1 m ws) (r2:aF X.K ad G1 es ws) (hg:Same G1 H1) (e:((ds.zip es).map fun p=>D.tup [p.1,p.2])[i]? =some d):
  (aBc t t2 X.K l m).go i H1/\ ∀ x H2,(aBc t t2 X.K l m).yld i H1 x H2-> ∃ G2,Step G1 H1 G2 H2/\Rep X.K ad G2 d x:=by
 obtain⟨x,y,e1,e2,rfl⟩:=aD0 e
 obtain⟨v,g1,q1⟩:=r1.get e1
 obtain⟨w,g2,q2⟩:=r2.get e2
 refine⟨⟨vs,ws,v,w,aG hg h1,aG hg h2,g1,g2⟩, ?_⟩
 rintro x' H2' ⟨p,x2,y2,hn,rfl,b1,b2,rfl⟩
 have c1:=b1 vs (aG hg h1);rw [g1] at c1;cases c1
 have c2:=b2 ws (aG hg h2);rw [g2] at c2;cases c2
 refine⟨upd G1 p (.tup [v,w]),Step.new hg hn, ?_⟩
 have sm:Same G1 (upd G1 p (.tup [v,w])):=Same.upd_new (hg.free hn)
 unfold Rep
 exact⟨p,[v,w],rfl,SqT.of aE,aF.cons (q1.mono sm) (aF.cons (q2.mono sm) aF.nil)⟩
theorem qC {t t2:Bool} {G1 H1:Hp} {l m:Addr} {vs ws:List V} {ds es:List D} (h1:SqA t X.K H1 l vs) (n1:vs.length=ds.length) (h2:SqA t2 X.K H1 m ws) (n2:ws.length=es.length):(aBc t t2 X.K l m).stop ((ds.zip es).map fun p=>D.tup [p.1,p.2]).length H1:=by
 refine⟨vs,ws,h1,h2, ?_⟩
 simp only [ao,List.length_zip]
 omega
theorem aIy {es:List Expr} {kt} {tp:Pos} (hg:L2.Gl X "zip") (hm:X.mg "zip"=none) (ha:ME X ad a f) (hb:ME X ad b g) (he:starEach [a,b] X.env=(false,eval a X.env)::starEach [b] X.env) (he2:starEach [b] X.env=(false,eval b X.env)::starEach [] X.env):
  MI X ad (.Tuple es kt tp) (.Call (.Name "zip" p) [a,b] [] pos) (aF1 f g):=by
 intro pins s σ H W I ⟨G,ρ,E,hG,hS,hx,hr⟩
 refine aBd (ta:=iJ (tE X ad f) (iJ (tE X ad g) xP)) hg hm (bE ha (bE hb cL he2) he) he he2 pins s σ H W I ?_
 show tE X ad f σ H fun v H1=>tE X ad g σ H1 fun v2 H2=> ∃ t t2 l m xs ys,[v,v2]=[.ref l, .ref m]/\SqA t X.K H2 l xs/\SqA t2 X.K H2 m ys/\(xs.length<=sizeLine->W (aBc t t2 X.K l m) H2)
 refine kW hG hS hx hr fun v d G1 H1 st r k=> ?_
 refine kW st.gh (hS.step st) hx k fun v2 d2 G2 H2 st2 r2 k2=> ?_
 obtain⟨t,t2,ds,es',c1,c2,k2⟩: ∃ t t2 ds es',isA t ds d/\isA t2 es' d2/\IK X ad G2 H2 (.ok (.lst ((ds.zip es').map fun p=>D.tup [p.1,p.2]))) W E:=by
  cases d<;>try exact az k2
  ·cases d2<;>try exact az k2
   ·exact⟨true,true,_,_,rfl,rfl,k2⟩
   ·exact⟨true,false,_,_,rfl,rfl,k2⟩
  ·cases d2<;>try exact az k2
   ·exact⟨false,true,_,_,rfl,rfl,k2⟩
   ·exact⟨false,false,_,_,rfl,rfl,k2⟩
 obtain⟨al,e,hw⟩:=k2
 cases e
 obtain⟨l,vs,rfl,q1,y1⟩:=lC c1 r
 obtain⟨m,ws,rfl,q2,y2⟩:=lC c2 r2
 have q1':=aG st2.sg q1
 have y1':=y1.mono st2.sg
 refine⟨t,t2,l,m,vs,ws,rfl,aG st2.gh q1',aG st2.gh q2,fun few=>hw _ G2 H2 (Step.refl st2.gh) ⟨fun i G3 H3 d' s3 e=> ?_,fun G3 H3 s3=>qC (G1:=G3) (aG s3.sh (aG st2.gh q1')) y1'.length (aG s3.sh (aG st2.gh q2)) y2.length, ?_⟩⟩
 ·exact qB (H2:=H3) (x:= .ref l) (aG s3.sg q1') (y1'.mono s3.sg) (aG s3.sg q2) (y2.mono s3.sg) s3.gh e
 ·have:=y1'.length
  simp only [ao,List.length_zip]
  omega
theorem aD1 {es:List Expr} {kt} {tp:Pos} (hg:L2.Gl X "zip") (hm:X.mg "zip"=none) (ha:ME X ad a f) (hb:ME X ad b g) (he:starEach [a,b] X.env=(false,eval a X.env)::starEach [b] X.env) (he2:starEach [b] X.env=(false,eval b X.env)::starEach [] X.env):
  MIG X ad (.Tuple es kt tp) (.Call (.Name "zip" p) [a,b] [] pos) (aF1 f g):=by
 intro pins s σ H W I ⟨G,ρ,E,hG,hS,hx,hr⟩
 refine aBd (ta:=iJ (tE X ad f) (iJ (tE X ad g) xP)) hg hm (bE ha (bE hb cL he2) he) he he2 pins s σ H W I ?_
 show tE X ad f σ H fun v H1=>tE X ad g σ H1 fun v2 H2=> ∃ t t2 l m xs ys,[v,v2]=[.ref l, .ref m]/\SqA t X.K H2 l xs/\SqA t2 X.K H2 m ys/\(xs.length<=sizeLine->W (aBc t t2 X.K l m) H2)
 refine lB hG hS hx hr fun v d G1 H1 st r k=> ?_
 refine lB st.gh (hS.step st) hx k fun v2 d2 G2 H2 st2 r2 k2=> ?_
 obtain⟨t,t2,ds,es',c1,c2,k2⟩: ∃ t t2 ds es',isA t ds d/\isA t2 es' d2/\IGK X ad G2 H2 (.ok (.lst ((ds.zip es').map fun p=>D.tup [p.1,p.2]))) W E:=by
  cases d<;>try exact az k2
  ·cases d2<;>try exact az k2
   ·exact⟨true,true,_,_,rfl,rfl,k2⟩
   ·exact⟨true,false,_,_,rfl,rfl,k2⟩
  ·cases d2<;>try exact az k2
   ·exact⟨false,true,_,_,rfl,rfl,k2⟩
   ·exact⟨false,false,_,_,rfl,rfl,k2⟩
 obtain⟨al,e,hw⟩:=k2
 cases e
 obtain⟨l,vs,rfl,q1,y1⟩:=lC c1 r
 obtain⟨m,ws,rfl,q2,y2⟩:=lC c2 r2
 have q1':=aG st2.sg q1
 have y1':=y1.mono st2.sg
 refine⟨t,t2,l,m,vs,ws,rfl,aG st2.gh q1',aG st2.gh q2,fun few=>hw _ G2 H2 (Step.refl st2.gh) ⟨fun i G3 H3 d' s3 s4 e=> ?_,fun G3 H3 s3 s4=>qC (G1:=G3) (aG s4 (aG s3 q1')) y1'.length (aG s4 (aG s3 q2)) y2.length⟩⟩
 exact qB (H2:=H3) (x:= .ref l) (aG s3 q1') (y1'.mono s3) (aG s3 q2) (y2.mono s3) s4 e
noncomputable def iEn (K:PySem.W.Frag) (ta:TA):TI:=fun σ H R=>ta σ H fun vs H1=> ∃ t l xs,vs=[.ref l]/\SqA t K H1 l xs/\(xs.length<=sizeLine->R (Ite t K l) H1)
theorem vG {es:List Expr} {kt} {tp:Pos} {ta:TA} (hg:L2.Gl X "enumerate") (hm:X.mg "enumerate"=none) (ha:PA X [a] ta) (he:starEach [a] X.env=(false,eval a X.env)::starEach [] X.env):
  PI X (.Tuple es kt tp) (.Call (.Name "enumerate" p) [a] [] pos) (iEn X.K ta):=by
 intro pins s σ H R I h
 refine Call_ (fR (u:= .type "enumerate") I hg hm (by decide+kernel) (PyProof.Rows.callWith_type1 (L2.thn (ha pos pins s σ H _ I h) fun us s1 ⟨vs,H1,I1,r1,q1⟩=> ?_) he rfl) (by decide) (by decide))
 obtain⟨t,l,xs,rfl,hq,q⟩:=q1
 obtain⟨u,rfl,ru⟩:=r1.one
 cases (show u=Value.ref l from ru)
 obtain⟨its,_,p1,z1⟩:=d9 I1 hq
 refine rX p1 fun h' a1 a2 a3 a4=>wpAny_pyIter_enum a1 ?_
 refine⟨s1.heap.objs.size+1,[s1.heap.objs.size+1,s1.heap.objs.size],_,Ite t X.K l,H1,rfl,I1.kept (t':=s1.toks) a4,vA (Nat.succ_ne_self _),⟨⟨_,a1⟩,a2⟩,fun b hb=> ?_,q z1⟩
 have hb':s1.heap.objs.size<=b:=by
  simp only [au,List.not_mem_nil,or_false] at hb
  rcases hb with rfl | rfl
  ·exact Nat.le_succ _
  ·exact aj _
 exact I1.fpOk hb' (I1.hok.fresh hb')
theorem mQ {G1:Hp} {d:D} {v:V} {ds:List D} (r:Rep X.K ad G1 d v) (e:items d=some ds): ∃ t l vs,v= .ref l/\SqA t X.K G1 l vs/\aF X.K ad G1 ds vs:=by
 cases d<;>try (cases e;done)
 ·cases e;unfold Rep at r;obtain⟨l,vs,rfl,q,t⟩:=r;exact⟨true,l,vs,rfl,q,t⟩
 ·cases e;unfold Rep at r;obtain⟨l,vs,rfl,q,t⟩:=r;exact⟨false,l,vs,rfl,q,t⟩
theorem qD {t:Bool} {G1 H1:Hp} {l:Addr} {i:Nat} {vs:List V} {ds:List D} {d:D} (h1:SqA t X.K G1 l vs) (r1:aF X.K ad G1 ds vs) (hg:Same G1 H1) (e:(ds.zipIdx.map fun p=>D.tup [.int (p.2:Nat),p.1])[i]? =some d):
  (Ite t X.K l).go i H1/\ ∀ x H2,(Ite t X.K l).yld i H1 x H2-> ∃ G2,Step G1 H1 G2 H2/\Rep X.K ad G2 d x:=by
 rw [List.getElem?_map,List.getElem?_zipIdx] at e
 cases q:ds[i]? with
 | none=>rw [q] at e;cases e
 | some x=>
  rw [q] at e
  have e2:=(Option.some.inj e).symm
  simp only [Nat.zero_add] at e2
  subst e2
  obtain⟨v,g1,q1⟩:=r1.get q
  refine⟨⟨vs,v,aG hg h1,g1⟩, ?_⟩
  rintro x' H2' ⟨p,x2,hn,rfl,b1,rfl⟩
  have c1:=b1 vs (aG hg h1);rw [g1] at c1;cases c1
  refine⟨upd G1 p (.tup [.int i,v]),Step.new hg hn, ?_⟩
  have sm:Same G1 (upd G1 p (.tup [.int i,v])):=Same.upd_new (hg.free hn)
  unfold Rep
  exact⟨p,[.int i,v],rfl,SqT.of aE,aF.cons aQ (aF.cons (q1.mono sm) aF.nil)⟩
theorem aD2 {es:List Expr} {kt} {tp:Pos} (hg:L2.Gl X "enumerate") (hm:X.mg "enumerate"=none) (ha:ME X ad a f) (he:starEach [a] X.env=(false,eval a X.env)::starEach [] X.env):
  MI X ad (.Tuple es kt tp) (.Call (.Name "enumerate" p) [a] [] pos) (rR f):=by
 intro pins s σ H W I ⟨G,ρ,E,hG,hS,hx,hr⟩
 refine vG (ta:=iJ (tE X ad f) xP) hg hm (bE ha cL he) he pins s σ H W I ?_
 show tE X ad f σ H fun v H1=> ∃ t l xs,[v]=[.ref l]/\SqA t X.K H1 l xs/\(xs.length<=sizeLine->W (Ite t X.K l) H1)
 refine kW hG hS hx hr fun v d G1 H1 st r k=> ?_
 have k':IK X ad G1 H1 (match items d with | some xs=> .ok (.lst (xs.zipIdx.map fun p=>D.tup [.int (p.2:Nat),p.1])) | none=> .bad) W E:=k
 cases e:items d with
 | none=>rw [e] at k';exact k'.elim
 | some ds=>
  rw [e] at k'
  obtain⟨al,e2,hw⟩:=k'
  cases e2
  obtain⟨t,l,vs,rfl,q1,t1⟩:=mQ r e
  have n1:=t1.length
  refine⟨t,l,vs,rfl,aG st.gh q1,fun few=>hw _ G1 H1 (Step.refl st.gh) ⟨fun i G3 H3 d' s3 e=>qD (aG s3.sg q1) (t1.mono s3.sg) s3.gh e,fun G3 H3 s3=>⟨vs,aG s3.sh (aG st.gh q1),by simp;omega⟩,by simp;omega⟩⟩
theorem yQ {es:List Expr} {kt} {tp:Pos} (hg:L2.Gl X "enumerate") (hm:X.mg "enumerate"=none) (ha:ME X ad a f) (he:starEach [a] X.env=(false,eval a X.env)::starEach [] X.env):
  MIG X ad (.Tuple es kt tp) (.Call (.Name "enumerate" p) [a] [] pos) (rR f):=by
 intro pins s σ H W I ⟨G,ρ,E,hG,hS,hx,hr⟩
 refine vG (ta:=iJ (tE X ad f) xP) hg hm (bE ha cL he) he pins s σ H W I ?_
 show tE X ad f σ H fun v H1=> ∃ t l xs,[v]=[.ref l]/\SqA t X.K H1 l xs/\(xs.length<=sizeLine->W (Ite t X.K l) H1)
 refine lB hG hS hx hr fun v d G1 H1 st r k=> ?_
 have k':IGK X ad G1 H1 (match items d with | some xs=> .ok (.lst (xs.zipIdx.map fun p=>D.tup [.int (p.2:Nat),p.1])) | none=> .bad) W E:=k
 cases e:items d with
 | none=>rw [e] at k';exact k'.elim
 | some ds=>
  rw [e] at k'
  obtain⟨al,e2,hw⟩:=k'
  cases e2
  obtain⟨t,l,vs,rfl,q1,t1⟩:=mQ r e
  have n1:=t1.length
  refine⟨t,l,vs,rfl,aG st.gh q1,fun few=>hw _ G1 H1 (Step.refl st.gh) ⟨fun i G3 H3 d' s3 s4 e=>qD (aG s3 q1) (t1.mono s3) s4 e,fun G3 H3 s3 s4=>⟨vs,aG s4 (aG s3 q1),by simp;omega⟩⟩⟩
theorem yR (hc:MT X ad c h) (ha:MT X ad a f) (hb:MT X ad b g):MT X ad (.IfExp c a b pos) (rIf h f g):=by
 intro pins s σ H Q I ⟨G,ρ,E,hG,hS,hx,ht,hr⟩
 have hr':RK X.K ad G H ((h ρ).bind fun x=>match x with | .bl true=>f ρ | .bl false=>g ρ | _=> .bad) (fun v H'=> ∃ b,v= .bl b/\Q b H') E:=hr
 have ht':jV ((h ρ).bind fun x=>match x with | .bl true=>f ρ | .bl false=>g ρ | _=> .bad):=ht
 have e:isTrue (.IfExp c a b pos) X.env (eval (.IfExp c a b pos) X.env)=(do if<-isTrue c X.env (eval c X.env) then isTrue a X.env (eval a X.env) else isTrue b X.env (eval b X.env)):=rfl
 rw [e]
 refine aa ?_
 rcases d6 ht' with ⟨d,e1,ht2⟩ | ⟨xs,e1,ht2⟩ | ⟨k,e1⟩
 ·cases d<;>try exact(bB ht2).elim
  rename_i k
  rw [e1] at hr'
  refine L2.thn (hc pins s σ H (fun b H1=>b=k/\ ∃ G1,Step G H G1 H1) I ⟨G,ρ,E,hG,hS,hx, .inl ⟨k,e1⟩, ?_⟩) fun b s1 ⟨H1,I1,e2,G1,st⟩=> ?_
  ·rw [e1]
   intro v G1 H1 st r
   unfold Rep at r;subst r
   exact⟨k,rfl,rfl,G1,st⟩
  ·subst e2
   cases b with
   | true=>exact wpAny_ite_true (by decide) (ha pins s1 σ H1 Q I1 ⟨G1,ρ,E,st.gh,hS.step st,hx,ht2,RK.step hr' st⟩)
   | false=>exact wpAny_ite_false (by decide) (hb pins s1 σ H1 Q I1 ⟨G1,ρ,E,st.gh,hS.step st,hx,ht2,RK.step hr' st⟩)
 ·exact(bB ht2).elim
 ·rw [e1] at hr'
  refine L2.thn (hc pins s σ H (fun b H1=>False) I ⟨G,ρ,E,hG,hS,hx, .inr ⟨k,e1⟩, ?_⟩) fun b s1 ⟨H1,I1,z⟩=>z.elim
  rw [e1]
  exact hr'
end
section
variable {X:Cx} {ad:Ad} {pins:List (Addr×Obj)} {s:Shared} {σ:St} {H G:Hp} {ρ:Rho} {Q:VK} {E:Nat->Hp->Prop} {pos p p2 pos2:Pos} {a:Expr} {f:F}
end
section
variable {prog:Program} {w:World} {A:Around} {Ex:Value->Shared->Prop} {s:Shared}
end
section
variable {X:Cx} {ad:Ad}
end
section
variable {prog:Program} {w:World} {A:Around} {Ex:Value->Shared->Prop} {s:Shared}
end
section
variable {prog:Program} {w:World} {A:Around} {Ex:Value->Shared->Prop} {s:Shared}
end
section
variable {X:Cx} {ad:Ad} {pos p p2 pos2:Pos} {a:Expr} {f:F}
end
theorem vH: ∀ (l:List Int) (m:Int),m<=xU m l/\ ∀ x∈l,x<=xU m l
 | [],m=>⟨Int.le_refl _,nofun⟩
 | i::r,m=>by
  have h:=vH r (if m<i then i else m)
  unfold xU
  by_cases c:m<i
  ·rw [if_pos c] at h ⊢
   exact⟨by omega,fun x hx=>by rcases au.1 hx with e | e;(subst e;exact h.1);exact h.2 x e⟩
  ·rw [if_neg c] at h ⊢
   exact⟨h.1,fun x hx=>by rcases au.1 hx with e | e;(subst e;omega);exact h.2 x e⟩
theorem qF: ∀ (l:List Int) (m:Int),xU m l∈m::l
 | [],m=> .head _
 | i::r,m=>by
  unfold xU
  have h:=qF r (if m<i then i else m)
  by_cases c:m<i
  ·rw [if_pos c] at h ⊢;exact .tail _ h
  ·rw [if_neg c] at h ⊢
   rcases au.1 h with e | e
   ·rw [e];exact .head _
   ·exact .tail _ (.tail _ e)
theorem aNy {n:Int} {r:List Int} {j:Nat} (hj:j<(n::r).length) (h: ∀ i,i<(n::r).length->(n::r).getD i 0<=(n::r).getD j 0):(n::r).getD j 0=xU n r:=by
 have a:=vH r n
 have b:=getD_mem hj
 obtain⟨k,hk,e⟩:=mem_getD (qF r n)
 have c:=h k hk
 have d:(n::r).getD j 0<=xU n r:=by
  rcases au.1 b with e | e
  ·rw [e];exact a.1
  ·exact a.2 _ e
 rw [e] at c;omega
section
variable {X:Cx} {ad:Ad}
end
section
variable {prog:Program} {w:World} {A:Around} {Ex:Value->Shared->Prop} {s:Shared}
end
section
variable {prog:Program} {w:World} {A:Around} {Ex:Value->Shared->Prop} {s:Shared}
end
section
open AutoSeq1 (wpAny_loadPart')
open MeetsSeq MeetsSeq2 MeetsSeq3 SeqRoads2 SeqAt
end
section
variable {X:Cx} {ad:Ad} {pins:List (Addr×Obj)} {s:Shared} {σ:St} {H G:Hp} {ρ:Rho} {Q:VK} {E:Nat->Hp->Prop} {pos p ap cp tp:Pos} {o a b c tg:Expr} {f g h:F}
theorem yS {A:Around} {Q:Value->Shared->Prop} {Ex:Value->Shared->Prop} {d:D} {v:V} {u t:Value} {b:Bool} {tp:Addr} {dd:Option Addr} {its:List Value} {n:Nat} {sl:Array (Option Value)} (hx: ∀ c,ExcCls X.K (ad.cls c)) (I:Inv X pins σ H s) (hG:Same G H) (q:Rep X.K ad G d v) (r:aP v u) (ht:tyD ad d=some t)
  (htp:s.heap.get? tp=some ⟨.type "tuple",dd, .seq its.toArray n,sl⟩) (e:kitAny X.K t its=some b) (h: ∀ tk,Q (.bool b) { s with toks:=tk }):wpAny (model X.prog X.w) A (call (.builtin "isinstance") [u, .ref tp]) Q Ex s:=by
 cases d with
 | non=>unfold Rep at q;subst q;cases (show u=Value.none from r);cases ht;exact kia_tup kitx_none I.kIn True.intro htp e (by intro z;cases z) h
 | bl k=>unfold Rep at q;subst q;cases (show u=Value.bool k from r);cases ht;exact kia_tup kitx_bool I.kIn True.intro htp e (by intro z;cases z) h
 | int k=>unfold Rep at q;subst q;obtain⟨t',rfl⟩:=r;cases ht;exact kia_tup kitx_int I.kIn True.intro htp e (by intro z;cases z) h
 | str k=>unfold Rep at q;subst q;obtain⟨t',rfl⟩:=r;cases ht;exact kia_tup kitx_str I.kIn True.intro htp e (by intro z;cases z) h
 | tup ds=>
  unfold Rep at q
  obtain⟨p,vs,rfl,hp,_⟩:=q
  cases (show u=Value.ref p from r)
  cases ht
  obtain⟨its,_,⟨o,h1,h2,_⟩,_⟩:=I.tuple (hG.seqT hp)
  exact kia_tup kitx_tuple I.kIn ⟨o,h1,h2⟩ htp e (by intro z;cases z) h
 | lst ds=>
  unfold Rep at q
  obtain⟨p,vs,rfl,hp,_⟩:=q
  cases (show u=Value.ref p from r)
  cases ht
  obtain⟨its,_,⟨o,n,h1,h2,_⟩,_⟩:=I.list (hG.seq hp)
  exact kia_tup kitx_list I.kIn ⟨o,h1,h2⟩ htp e (by intro z;cases z) h
 | exc c=>
  unfold Rep at q
  obtain⟨p,rfl,hp⟩:=q
  cases (show u=Value.ref p from r)
  cases ht
  obtain⟨ex,_,_⟩:=(show ObjOk X.prog X.w H s.heap p (aLv (ad.cls c) p) from I.hok p _ (hG _ _ hp))
  exact kia_tup (qA (hx c)) I.kIn ex htp e (by intro z;cases z) h
 | fn k=>cases ht
theorem yT {t t':Str} {cv cv':Value} {P P':D->Option Bool} {p1 p2:Pos} {j:Nat} (hx: ∀ c,ExcCls X.K (ad.cls c)) (hg:L2.Gl X "isinstance") (hm:X.mg "isinstance"=none) (c:ClNm X t cv) (k:aKr X ad cv P) (c':ClNm X t' cv') (k':aKr X ad cv' P') (ha:ME X ad a f)
  (he:starEach [a, .Tuple [.Name t p1, .Name t' p2] j tp] X.env=(false,eval a X.env)::starEach [.Tuple [.Name t p1, .Name t' p2] j tp] X.env):ME X ad (.Call (.Name "isinstance" p) [a, .Tuple [.Name t p1, .Name t' p2] j tp] [] pos) (rIs (orP P P') f):=by
 intro pins s σ H Q I ⟨G,ρ,E,hG,hS,hx',hr⟩
 refine wpAny_Call_Name_kw (fR (u:= .builtin "isinstance") I hg hm (by decide+kernel) ?_ (by decide) (by decide))
 refine PyProof.Rows.callWith_builtin1 ?_ he rfl
 rw [he]
 refine Calls.spliced_cons (L2.thn (ha.thn I hG hS hx' hr) fun u s1 hz_=> ?_)
 obtain⟨v,d,G1,H1,I1,r1,st,q,k1⟩:=hz_
 refine Calls.spliced_cons (wpAny_Tuple_spliced (x1:=j) (Calls.spliced_cons (c.ev I1 (Calls.spliced_cons (c'.ev I1 (Calls.spliced_nil ⟨(by decide:2<=sizeLine),Calls.spliced_nil ?_⟩))))))
 have k1':RK X.K ad G1 H1 (match orP P P' d with | some b=> .ok (.bl b) | none=> .bad) Q E:=k1
 cases e:orP P P' d with
 | none=>rw [e] at k1';exact k1'.elim
 | some b=>
  rw [e] at k1'
  have I2:Inv X pins σ H1 { s1 with heap:=s1.heap.push { cls:= .type "tuple",data:= .seq #[cv,cv'] } }:=I1.kept (t':=s1.toks) fun b ob q=>af _ q
  unfold orP at e
  split at e
  ·rename_i x y e1 e2
   cases e
   obtain⟨ty,z1,z2⟩:=k d x e1
   obtain⟨ty',z3,z4⟩:=k' d y e2
   cases z1.symm.trans z3
   refine yS (its:=[cv,cv']) hx I2 st.gh q r1 z1 (ag _ rfl) ?_ fun tk=>⟨.bl (x||y),H1,I2.tok tk,rfl,k1'.ok_now st.gh aS⟩
   cases x<;>cases y<;>simp [kitAny,z2,z4]
  ·cases e
end
noncomputable def tab (m mv:Nat) (ps:List Nat):SetTable:={ mask:=m,place:=ps.toArray,dummies:= #[],finger:=0,led:=true,moves:=mv,plain:=true }
noncomputable def tbl (m mv:Nat) (led:Bool) (ps:List Nat):SetTable:={ mask:=m,place:=ps.toArray,dummies:= #[],finger:=0,led:=led,moves:=mv,plain:=true }
noncomputable def adv (m:Nat) (p:SetTable.Probe):SetTable.Probe:=(tab m 0 []).advance p
noncomputable def pr (m:Nat) (h:Int):Nat->SetTable.Probe
 | 0=>(tab m 0 []).probeStart h
 | k+1=>adv m (pr m h k)
noncomputable def lp (m:Nat) (h:Int):Nat->Nat×Nat
 | 0=>(SetTable.bits h % (m+1),SetTable.bits h)
 | r+1=>SetTable.leap m (lp m h r).1 (lp m h r).2
def Rch (m:Nat) (h:Int) (ps:List Nat) (p:Nat):Prop:= ∃ k,k<10 * SetTable.turns m/\(pr m h k).j=p/\ ∀ b,b<k->(pr m h b).j∈ps
structure TI (m:Nat) (L:List (Nat×Int×Value)):Prop where
 up:(L.map (·.1)).Pairwise (· < ·)
 le: ∀ x∈L,x.1<=m
 rch: ∀ x∈L,Rch m x.2.1 (L.map (·.1)) x.1
mutual
noncomputable def hk:PyData->Bool
 | .none=>true
 | .int _=>true
 | .tuple xs=>hks xs
 | _=>false
noncomputable def hks:List PyData->Bool
 | []=>true
 | x::xs=>hk x&&hks xs
end
mutual
noncomputable def hsh:PyData->Int
 | .none=>0xFCA86420
 | .int i=>hashInt i
 | .tuple xs=>reduceHash (Builtin.Tuple.tupleHashOf (xG xs))
 | _=>0
noncomputable def xG:List PyData->List Int
 | []=>[]
 | x::xs=>hsh x::xG xs
end
mutual
theorem qG: ∀ d:PyData,hk d=true->d.canLay0=true
 | .none,_=>rfl
 | .int _,_=>rfl
 | .tuple xs,h=>by
  rw [hk] at h
  rw [PyData.canLay0]
  exact vI xs h
 | .bool _,h=>by simp [hk] at h
 | .str _,h=>by simp [hk] at h
 | .list _,h=>by simp [hk] at h
 | .dict _,h=>by simp [hk] at h
theorem vI: ∀ xs:List PyData,hks xs=true->PyData.canLayAll0 xs=true
 | [],_=>rfl
 | x::xs,h=>by
  rw [hks,av] at h
  rw [PyData.canLayAll0,qG x h.1,vI xs h.2]
  rfl
end
mutual
theorem oK: ∀ d1 d2:PyData,hk d1=true->hk d2=true->PyData.eqv d1 d2=true->d1=d2
 | .none,d2,_,h2,e=>by cases d2<;>simp [hk] at h2<;>simp [PyData.eqv] at e ⊢
 | .int i,d2,_,h2,e=>by cases d2<;>simp [hk] at h2<;>simp [PyData.eqv] at e ⊢<;>exact e
 | .tuple xs,d2,h1,h2,e=>by
  cases d2<;>simp [hk] at h2<;>simp [PyData.eqv] at e
  rename_i ys
  rw [qH xs ys (by simpa [hk] using h1) h2 e]
 | .bool _,_,h,_,_=>by simp [hk] at h
 | .str _,_,h,_,_=>by simp [hk] at h
 | .list _,_,h,_,_=>by simp [hk] at h
 | .dict _,_,h,_,_=>by simp [hk] at h
theorem qH: ∀ xs ys:List PyData,hks xs=true->hks ys=true->PyData.eqvAll xs ys=true->xs=ys
 | [],[],_,_,_=>rfl
 | [],_::_,_,_,e=>by simp [PyData.eqvAll] at e
 | _::_,[],_,_,e=>by simp [PyData.eqvAll] at e
 | x::xs,y::ys,h1,h2,e=>by
  rw [hks,av] at h1 h2
  rw [PyData.eqvAll,av] at e
  rw [oK x y h1.1 h2.1 e.1,qH xs ys h1.2 h2.2 e.2]
end
section
variable {prog:Program} {w:World}
theorem mR {A:Around} {s:Shared} {Q:Int->Shared->Prop} {E:Value->Shared->Prop} (h:Q 0xFCA86420 { s with toks:=s.toks+1 }):wpAny (model prog w) A (pyHash .none) Q E s:=by
 have hT:s.TypeIs .none "NoneType":=rfl
 unfold pyHash pyHashByItsType
 refine aa (wpAny_cRoomFor_or (.inl rfl) ?_)
 refine aa (wpAny_specialOf hT F.slot_NoneType_hash.lookup ?_)
 show wpAny _ _ (if(some (Value.builtin "NoneType.__hash__")==some Value.none)=true then _ else _) Q E s
 rw [if_neg (by rw [beq_builtin_none];exact bf)]
 refine aa (wpAny_specialOf hT F.slot_NoneType_hash.lookup ?_)
 show wpAny _ _ (callSpecialIfBoundUnlessNone? .none "__hash__" _ >>= _) Q E s
 refine aa (wpAny_callSpecialIfBoundUnlessNone?_slot hT F.slot_NoneType_hash (wpAny_call_entry F.slot_NoneType_hash hT F.entry_NoneType_hash ?_ (F.args_NoneType_hash_1 _)))
 show wpAny _ _ (retInt 0xFCA86420) _ _ s
 refine wpAny_ret_mkInt ?_
 exact ae h
mutual
noncomputable def dr:PyData->Nat
 | .tuple xs=>drs xs+1
 | _=>1
noncomputable def drs:List PyData->Nat
 | []=>0
 | x::xs=>dr x+drs xs
end
theorem aD3: ∀ (n:Nat) (d:PyData) (v:Value) (as:List Addr) (A:Around) (s:Shared) (Q:Int->Shared->Prop) (E:Value->Shared->Prop),hk d=true->d.depth<=n->Reads s.heap v d as->A.units+n<cLine->Q (hsh d) { s with toks:=s.toks+dr d }->wpAny (model prog w) A (pyHash v) Q E s:=by
 intro n
 induction n with
 | zero=>
  intro d v as A s Q E hd hn hr hu h
  cases hr with
  | none=>exact mR (by simpa [hsh,dr] using h)
  | int i t=>exact wpAny_pyHash_int (by simpa [hsh,dr] using h)
  | bool b=>cases hd
  | str x t=>cases hd
  | list=>cases hd
  | tuple=>simp [PyData.depth] at hn
  | dict=>cases hd
 | succ n ih=>
  intro d v as A s Q E hd hn hr hu h
  cases hr with
  | none=>exact mR (by simpa [hsh,dr] using h)
  | int i t=>exact wpAny_pyHash_int (by simpa [hsh,dr] using h)
  | bool b=>cases hd
  | str x t=>cases hd
  | list=>cases hd
  | dict=>cases hd
  | @tuple a o vs k xs as ho hc hdat hall=>
   have hT:s.TypeIs (.ref a) "tuple":=⟨o,ho,hc⟩
   have hd':hks xs=true:=by simpa [hk] using hd
   have hn':PyData.depthAll xs<=n:=by simp only [PyData.depth] at hn;omega
   unfold pyHash
   unfold pyHashByItsType
   refine aa (wpAny_cRoomFor_or (.inr (by omega)) ?_)
   refine aa (wpAny_specialOf hT F.slot_tuple_hash.lookup ?_)
   show wpAny _ _ (if(some (Value.builtin "tuple.__hash__")==some Value.none)=true then _ else _) Q E s
   rw [if_neg (by rw [beq_builtin_none];exact bf)]
   refine aa (wpAny_specialOf hT F.slot_tuple_hash.lookup ?_)
   show wpAny _ _ (callSpecialIfBoundUnlessNone? (.ref a) "__hash__" _ >>= _) Q E s
   refine aa (wpAny_callSpecialIfBoundUnlessNone?_slot hT F.slot_tuple_hash (wpAny_call_entry F.slot_tuple_hash hT F.entry_tuple_hash ?_ (F.args_tuple_hash_1 _)))
   show wpAny _ _ (Builtin.Tuple.tupleItemsOf (.ref a) >>= _) _ _ s
   refine aa (wpAny_tupleItemsOf ho hdat ?_)
   refine aa ?_
   rw [<-Array.forIn_toList]
   refine wpAny_forIn_list _
    (fun cI (b:Array Int) s'=> ∃ ds bs tk,ReadsAll s.heap cI ds bs/\hks ds=true/\PyData.depthAll ds<=n/\xG xs=b.toList++xG ds/\s.toks+drs xs=tk+drs ds/\s'={ s with toks:=tk })
    _ ?_ ?_ _ _ ⟨xs,as,s.toks,hall,hd',hn',rfl,rfl,rfl⟩
   ·rintro x cI b s' ⟨ds,bs,tk,hra,k1,k2,k3,k4,rfl⟩
    cases hra with
    | @cons _ _ d1 ds1 as1 bs1 r1 r2=>
     simp only [hks,av] at k1
     simp only [PyData.depthAll] at k2
     refine aa (ih d1 x as1 _ _ _ _ k1.1 (by omega) r1 (by have:=A.in1_units;omega) ?_)
     have k5:s.toks+drs xs=tk+dr d1+drs ds1:=by rw [k4];simp only [drs];omega
     first
      | exact ae ⟨ds1,bs1,_,r2,k1.2,by omega,by rw [k3];simp [xG],k5,rfl⟩
      | exact aa (ae (ae ⟨ds1,bs1,_,r2,k1.2,by omega,by rw [k3];simp [xG],k5,rfl⟩))
   ·rintro b s' ⟨ds,bs,tk,hra,k1,k2,k3,k4,rfl⟩
    cases hra
    simp only [xG,List.append_nil] at k3
    have h':=h
    simp only [hsh,k3,dr,show s.toks+(drs xs+1)=tk+1 from by simp only [drs] at k4;omega] at h'
    show wpAny _ _ (retInt (Builtin.Tuple.tupleHashOf b.toList)) _ _ _
    refine wpAny_ret_mkInt ?_
    show wpAny _ _ (if(decide (-(2:Int) ^ 63<=Builtin.Tuple.tupleHashOf b.toList)&&decide (Builtin.Tuple.tupleHashOf b.toList<2 ^ 63))=true then _ else _) Q E _
    unfold reduceHash at h'
    by_cases hr:(decide (-(2:Int) ^ 63<=Builtin.Tuple.tupleHashOf b.toList)&&decide (Builtin.Tuple.tupleHashOf b.toList<2 ^ 63))=true
    ·rw [if_pos hr]
     rw [if_pos hr] at h'
     exact ae h'
    ·rw [if_neg hr]
     rw [if_neg hr] at h'
     exact aa (wpAny_rule (ae h'))
theorem yU: ∀ (n:Nat) (d:PyData) (v:Value) (as:List Addr) (A:Around) (s:Shared) (Q:Bool->Shared->Prop) (E:Value->Shared->Prop),hk d=true->d.depth<=n->Reads s.heap v d as->Q true s->wpAny (model prog w) A (eqIsQuiet n v) Q E s:=by
 intro n
 induction n with
 | zero=>
  intro d v as A s Q E hd hn hr h
  cases hr with
  | tuple=>simp [PyData.depth] at hn
  | none=>rw [eqIsQuiet_byValue _ rfl];exact ae h
  | int i t=>rw [eqIsQuiet_byValue _ rfl];exact ae h
  | bool b=>cases hd
  | str x t=>cases hd
  | list=>cases hd
  | dict=>cases hd
 | succ n ih=>
  intro d v as A s Q E hd hn hr h
  cases hr with
  | none=>rw [eqIsQuiet_byValue _ rfl];exact ae h
  | int i t=>rw [eqIsQuiet_byValue _ rfl];exact ae h
  | bool b=>cases hd
  | str x t=>cases hd
  | list=>cases hd
  | dict=>cases hd
  | @tuple a o vs k xs as ho hc hdat hall=>
   have hT:s.TypeIs (.ref a) "tuple":=⟨o,ho,hc⟩
   have hd':hks xs=true:=by simpa [hk] using hd
   have hn':PyData.depthAll xs<=n:=by simp only [PyData.depth] at hn;omega
   unfold eqIsQuiet
   refine aa (wpAny_specialOf hT F.slot_tuple_eq.lookup ?_)
   show wpAny _ _ (isInstance (.ref a) (.type "tuple") >>= _) _ _ s
   refine aa (wpAny_isInstance hT isSubtype_tuple_tuple ?_)
   simp only [Bool.not_true,ay,if_false]
   refine aa (wpAny_seqItems ho hdat ?_)
   refine aa ?_
   show wpAny _ _ (forIn vs _ _) _ _ s
   rw [<-Array.forIn_toList]
   refine wpAny_forIn_list _ (fun cI r s'=>r.1=none/\s'=s/\ ∃ ds bs,ReadsAll s.heap cI ds bs/\hks ds=true/\PyData.depthAll ds<=n) _ ?_ ?_ _ _ ⟨rfl,rfl,xs,as,hall,hd',hn'⟩
   ·rintro x cI r s' ⟨hr,rfl,ds,bs,hra,k1,k2⟩
    cases hra with
    | @cons _ _ d1 ds1 as1 bs1 r1 r2=>
     simp only [hks,av] at k1
     simp only [PyData.depthAll] at k2
     refine aa (ih d1 x as1 _ _ _ _ k1.1 (by omega) r1 ?_)
     simp only [Bool.not_true,ay,if_false]
     exact ae ⟨rfl,rfl,ds1,bs1,r2,k1.2,by omega⟩
   ·rintro⟨r1,r2⟩ s' ⟨hr,rfl,_⟩
    simp only at hr
    subst hr
    exact ae h
end
section
variable {prog:Program} {w:World} {A:Around} {E:Value->Shared->Prop} {s:Shared}
end
section
variable {prog:Program} {w:World} {A:Around} {E:Value->Shared->Prop} {s:Shared}
end
def Key (h:Heap) (d:PyData) (v:Value):Prop:=(∃ b,v= .ref b)/\hk d=true/\d.depth<=8/\ ∃ as,Reads h v d as
section
variable {prog:Program} {w:World} {A:Around} {E:Value->Shared->Prop} {s:Shared}
end
mutual
theorem lD: ∀ {x y:D},same x y=true->(pN x).length=(pN y).length
 | .int _,y,h=>by cases y<;>simp [same] at h;rfl
 | .tup xs,y,h=>by
  cases y<;>simp [same] at h
  simp only [pN];exact mT h
 | .non,_,h=>by simp [same] at h
 | .bl _,_,h=>by simp [same] at h
 | .str _,_,h=>by simp [same] at h
 | .lst _,_,h=>by simp [same] at h
 | .exc _,_,h=>by simp [same] at h
 | .fn _,_,h=>by simp [same] at h
theorem mT: ∀ {xs ys:List D},bP xs ys=true->(iN xs).length=(iN ys).length
 | [],[],_=>rfl
 | [],_::_,h=>by simp [bP] at h
 | _::_,[],h=>by simp [bP] at h
 | x::xs,y::ys,h=>by
  simp only [bP,av] at h
  simp only [iN,bo,lD h.1,mT h.2]
end
mutual
theorem yV: ∀ {x y:D},same x y=true->pN x=pN y->x=y
 | .int _,y,h,e=>by cases y<;>simp [same] at h;simpa [pN] using e
 | .tup xs,y,h,e=>by
  cases y<;>simp [same] at h
  simp only [pN] at e
  rw [mU h e]
 | .non,_,h,_=>by simp [same] at h
 | .bl _,_,h,_=>by simp [same] at h
 | .str _,_,h,_=>by simp [same] at h
 | .lst _,_,h,_=>by simp [same] at h
 | .exc _,_,h,_=>by simp [same] at h
 | .fn _,_,h,_=>by simp [same] at h
theorem mU: ∀ {xs ys:List D},bP xs ys=true->iN xs=iN ys->xs=ys
 | [],[],_,_=>rfl
 | [],_::_,h,_=>by simp [bP] at h
 | _::_,[],h,_=>by simp [bP] at h
 | x::xs,y::ys,h,e=>by
  simp only [bP,av] at h
  simp only [iN] at e
  obtain⟨e1,e2⟩:=List.append_inj e (lD h.1)
  rw [yV h.1 e1,mU h.2 e2]
end
mutual
theorem yW: ∀ {x y:D},same x y=true->deq x y=(pN x==pN y)
 | .int i,y,h=>by
  cases y<;>simp [same] at h
  simp [deq,pN]
 | .tup xs,y,h=>by
  cases y<;>simp [same] at h
  simp only [deq,pN];exact mV h
 | .non,_,h=>by simp [same] at h
 | .bl _,_,h=>by simp [same] at h
 | .str _,_,h=>by simp [same] at h
 | .lst _,_,h=>by simp [same] at h
 | .exc _,_,h=>by simp [same] at h
 | .fn _,_,h=>by simp [same] at h
theorem mV: ∀ {xs ys:List D},bP xs ys=true->rP xs ys=(iN xs==iN ys)
 | [],[],_=>rfl
 | [],_::_,h=>by simp [bP] at h
 | _::_,[],h=>by simp [bP] at h
 | x::xs,y::ys,h=>by
  simp only [bP,av] at h
  simp only [rP,iN,yW h.1,mV h.2]
  rw [Bool.eq_iff_iff]
  simp only [av,beq_iff_eq]
  constructor
  ·rintro⟨a,b⟩;rw [a,b]
  ·intro e;exact List.append_inj e (lD h.1)
end
mutual
theorem aD4: ∀ {x:D},same x x=true->hk (bG x)=true
 | .int _,_=>by simp [bG,hk]
 | .tup xs,h=>by
  simp only [bG,hk];exact qI (by simpa [same] using h)
 | .non,h=>by simp [same] at h
 | .bl _,h=>by simp [same] at h
 | .str _,h=>by simp [same] at h
 | .lst _,h=>by simp [same] at h
 | .exc _,h=>by simp [same] at h
 | .fn _,h=>by simp [same] at h
theorem qI: ∀ {xs:List D},bP xs xs=true->hks (dA xs)=true
 | [],_=>by simp [dA,hks]
 | x::xs,h=>by
  simp only [bP,av] at h
  simp [dA,hks,aD4 h.1,qI h.2]
end
mutual
theorem rY: ∀ {x:D},same x x=true->plain x=true
 | .int _,_=>by simp [plain]
 | .tup xs,h=>by
  simp only [plain];exact iY (by simpa [same] using h)
 | .non,h=>by simp [same] at h
 | .bl _,h=>by simp [same] at h
 | .str _,h=>by simp [same] at h
 | .lst _,h=>by simp [same] at h
 | .exc _,h=>by simp [same] at h
 | .fn _,h=>by simp [same] at h
theorem iY: ∀ {xs:List D},bP xs xs=true->a8 xs=true
 | [],_=>by simp [a8]
 | x::xs,h=>by
  simp only [bP,av] at h
  simp [a8,rY h.1,iY h.2]
end
mutual
theorem aIz: ∀ {x y:D},same x y=true->same y y=true/\same x x=true/\dep y=dep x
 | .int _,y,h=>by cases y<;>simp [same] at h;simp [same,dep]
 | .tup xs,y,h=>by
  cases y<;>simp [same] at h
  simp only [same,dep]
  have:=vJ h
  exact⟨this.1,this.2.1,by rw [this.2.2]⟩
 | .non,_,h=>by simp [same] at h
 | .bl _,_,h=>by simp [same] at h
 | .str _,_,h=>by simp [same] at h
 | .lst _,_,h=>by simp [same] at h
 | .exc _,_,h=>by simp [same] at h
 | .fn _,_,h=>by simp [same] at h
theorem vJ: ∀ {xs ys:List D},bP xs ys=true->bP ys ys=true/\bP xs xs=true/\xS ys=xS xs
 | [],[],_=>⟨rfl,rfl,rfl⟩
 | [],_::_,h=>by simp [bP] at h
 | _::_,[],h=>by simp [bP] at h
 | x::xs,y::ys,h=>by
  simp only [bP,av] at h
  have a:=aIz h.1
  have b:=vJ h.2
  simp only [bP,xS,a.1,b.1,a.2.1,b.2.1,a.2.2,b.2.2,Bool.and_self,and_self]
end
mutual
theorem aD5: ∀ {x y z:D},same x y=true->same x z=true->same y z=true
 | .int _,y,z,h,k=>by cases y<;>simp [same] at h;cases z<;>simp [same] at k;rfl
 | .tup xs,y,z,h,k=>by
  cases y<;>simp [same] at h
  cases z<;>simp [same] at k
  simp only [same];exact qJ h k
 | .non,_,_,h,_=>by simp [same] at h
 | .bl _,_,_,h,_=>by simp [same] at h
 | .str _,_,_,h,_=>by simp [same] at h
 | .lst _,_,_,h,_=>by simp [same] at h
 | .exc _,_,_,h,_=>by simp [same] at h
 | .fn _,_,_,h,_=>by simp [same] at h
theorem qJ: ∀ {xs ys zs:List D},bP xs ys=true->bP xs zs=true->bP ys zs=true
 | [],[],[],_,_=>rfl
 | [],_::_,_,h,_=>by simp [bP] at h
 | [],[],_::_,_,h=>by simp [bP] at h
 | _::_,[],_,h,_=>by simp [bP] at h
 | _::_,_::_,[],_,h=>by simp [bP] at h
 | x::xs,y::ys,z::zs,h,k=>by
  simp only [bP,av] at h k ⊢
  exact⟨aD5 h.1 k.1,qJ h.2 k.2⟩
end
section
variable {prog:Program} {w:World}
end
section
variable {O:KeyOrd} {key:Nat->O.α} {n:Nat} {cmp:Nat->Nat->(Bool->Shared->Prop)->Shared->Prop} {s:Shared}
end
theorem oM: ∀ a,nZ a a=false
 | []=>rfl
 | a::r=>by simp [nZ,oM r]
theorem rZ: ∀ a b c,nZ a b=true->nZ b c=true->nZ a c=true
 | [],[],_,h,_=>by cases h
 | [],_::_,[],_,h=>by cases h
 | [],_::_,_::_,_,_=>rfl
 | _::_,[],_,h,_=>by cases h
 | _::_,_::_,[],_,h=>by cases h
 | a::r,b::t,c::u,h1,h2=>by
  unfold nZ at h1 h2 ⊢
  by_cases ab:a=b
  ·subst ab
   rw [if_pos rfl] at h1
   by_cases ac:a=c
   ·rw [if_pos ac] at h2 ⊢;exact rZ r t u h1 h2
   ·rw [if_neg ac] at h2 ⊢;exact h2
  ·rw [if_neg ab] at h1
   have h1:=of_decide_eq_true h1
   by_cases bc:b=c
   ·subst bc;rw [if_neg ab];exact decide_eq_true h1
   ·rw [if_neg bc] at h2
    have h2:=of_decide_eq_true h2
    rw [if_neg (by omega)];exact decide_eq_true (by omega)
theorem yX: ∀ a b c,nZ a c=true->nZ a b=true\/nZ b c=true
 | [],[],[],h=>by cases h
 | [],[],_::_,_=> .inr rfl
 | [],_::_,_,_=> .inl rfl
 | _::_,_,[],h=>by cases h
 | _::_,[],_::_,_=> .inr rfl
 | a::r,b::t,c::u,h=>by
  unfold nZ at h ⊢
  by_cases ac:a=c
  ·subst ac
   rw [if_pos rfl] at h
   by_cases ab:a=b
   ·subst ab;rw [if_pos rfl,if_pos rfl];exact yX r t u h
   ·rw [if_neg ab,if_neg (Ne.symm ab)]
    rcases Int.lt_or_gt_of_ne ab with z | z
    ·exact .inl (decide_eq_true z)
    ·exact .inr (decide_eq_true z)
  ·rw [if_neg ac] at h
   have h:=of_decide_eq_true h
   by_cases ab:a=b
   ·subst ab;rw [if_neg ac];exact .inr (decide_eq_true h)
   ·rw [if_neg ab]
    by_cases z:a<b
    ·exact .inl (decide_eq_true z)
    ·rw [if_neg (by omega)];exact .inr (decide_eq_true (by omega))
theorem r8: ∀ a b,nZ a b=false->nZ b a=false->a=b
 | [],[],_,_=>rfl
 | [],_::_,h,_=>by cases h
 | _::_,[],_,h=>by cases h
 | a::r,b::t,h1,h2=>by
  unfold nZ at h1 h2
  by_cases ab:a=b
  ·subst ab
   rw [if_pos rfl] at h1 h2
   rw [r8 r t h1 h2]
  ·rw [if_neg ab] at h1
   rw [if_neg (Ne.symm ab)] at h2
   have h1:=of_decide_eq_false h1
   have h2:=of_decide_eq_false h2
   omega
section
variable {prog:Program} {w:World} {A:Around} {Ex:Value->Shared->Prop} {s:Shared}
mutual
theorem sA {h h':Heap} (k: ∀ b o,o.cls= .type "tuple"->h.get? b=some o->h'.get? b=some o): ∀ {d:PyData} {v:Value} {as:List Addr},hk d=true->Reads h v d as->Reads h' v d as
 | _,_,_,_, .none=> .none
 | _,_,_,_, .int i t=> .int i t
 | _,_,_,hd, .tuple e c q r=> .tuple (k _ _ c e) c q (fW k (by simpa [hk] using hd) r)
 | _,_,_,hd, .bool _=>by simp [hk] at hd
 | _,_,_,hd, .str _ _=>by simp [hk] at hd
 | _,_,_,hd, .list _ _ _ _=>by simp [hk] at hd
 | _,_,_,hd, .dict _ _ _ _ _=>by simp [hk] at hd
theorem fW {h h':Heap} (k: ∀ b o,o.cls= .type "tuple"->h.get? b=some o->h'.get? b=some o): ∀ {ds:List PyData} {vs:List Value} {as:List Addr},hks ds=true->ReadsAll h vs ds as->ReadsAll h' vs ds as
 | _,_,_,_, .nil=> .nil
 | _,_,_,hd, .cons a b=>by
  simp only [hks,av] at hd
  exact .cons (sA k hd.1 a) (fW k hd.2 b)
end
end
section
variable {prog:Program} {w:World} {A:Around} {I:Addr} {fp wr:List Addr} {G:Array GenState->Array GenState->Prop} {n:Nat} {P:Nat->Value->Prop} {St:Nat->Shared->Prop} {E:Value->Shared->Prop} {s:Shared} {R:_->Shared->Prop}
end
section
variable {X:Cx} {ad:Ad} {G:Hp}
end
section
variable {prog:Program} {w:World} {A:Around} {E:Value->Shared->Prop} {s:Shared}
noncomputable def ddS (acc:List Nat) (n:Nat):List Nat:=if n∈acc then acc else n::acc
noncomputable def dd (ns:List Nat):List Nat:=ns.foldl ddS []
end
section
variable {prog:Program} {w:World} {A:Around} {E:Value->Shared->Prop} {s:Shared}
end
section
variable {prog:Program} {w:World} {A:Around} {E:Value->Shared->Prop} {s:Shared}
end
section
variable {prog:Program} {w:World} {A:Around} {E:Value->Shared->Prop} {s:Shared}
end
section
variable {prog:Program} {w:World} {A:Around} {E:Value->Shared->Prop} {s:Shared}
end
section
variable {X:Cx} {ad:Ad} {a:Expr} {f:F} {p p2 pos pos2:Pos}
end
section
variable {prog:Program} {w:World} {A:Around} {E:Value->Shared->Prop} {R:Result->Shared->Prop} {I:Addr} {fp wr:List Addr} {G:Array GenState->Array GenState->Prop} {n:Nat} {P:Nat->Value->Prop} {St:Nat->Shared->Prop}
end
noncomputable def iv:Value->Int
 | .int n _=>n
 | _=>0
section
variable {X:Cx} {ad:Ad} {a:Expr} {f:F} {p p2 pos pos2:Pos}
end
section
variable {h h':Heap} {d:Addr} {o:Obj} {es:Array DictEntry} {ep:Nat}
theorem yY (ho:h.get? d=some o) (hd:o.data= .dict es ep) (hs:Heap.SameBut d h h') {a:Addr} {u:Obj} {vs:Array Value} {n:Nat} (hu:h.get? a=some u) (hq:u.data= .seq vs n):h'.get? a=some u:=by
 have ne:a≠d:=fun z=>by
  subst z
  rw [ho] at hu
  cases hu
  rw [hd] at hq
  cases hq
 exact(hs.2 a ne).trans hu
mutual
theorem rk1 (ho:h.get? d=some o) (hd:o.data= .dict es ep) (hs:Heap.SameBut d h h'): ∀ (k:PyData) (v:Value) (as:List Addr),hk k=true->Reads h v k as->Reads h' v k as
 | .none,v,as,_,r=>by cases r;exact .none
 | .int i,v,as,_,r=>by cases r;exact .int _ _
 | .tuple xs,v,as,hk',r=>by
  cases r with
  | tuple h1 h2 h3 h4=>exact .tuple (yY ho hd hs h1 h3) h2 h3 (rk2 ho hd hs xs _ _ (by simpa [hk] using hk') h4)
 | .bool _,_,_,h,_=>by simp [hk] at h
 | .str _,_,_,h,_=>by simp [hk] at h
 | .list _,_,_,h,_=>by simp [hk] at h
 | .dict _,_,_,h,_=>by simp [hk] at h
theorem rk2 (ho:h.get? d=some o) (hd:o.data= .dict es ep) (hs:Heap.SameBut d h h'): ∀ (ks:List PyData) (vs:List Value) (as:List Addr),hks ks=true->ReadsAll h vs ks as->ReadsAll h' vs ks as
 | [],_,_,_,r=>by cases r;exact .nil
 | k::ks,_,_,hk',r=>by
  rw [hks,av] at hk'
  cases r with
  | cons r1 r2=>exact .cons (rk1 ho hd hs k _ _ hk'.1 r1) (rk2 ho hd hs ks _ _ hk'.2 r2)
end
end
mutual
theorem aL5: ∀ x:PyData,hk x=true->PyData.eqv x x=true
 | .none,_=>by simp [PyData.eqv]
 | .int i,_=>by simp [PyData.eqv]
 | .tuple xs,h=>by
  rw [PyData.eqv]
  exact aI0 xs (by simpa [hk] using h)
 | .bool _,h=>by simp [hk] at h
 | .str _,h=>by simp [hk] at h
 | .list _,h=>by simp [hk] at h
 | .dict _,h=>by simp [hk] at h
theorem aI0: ∀ xs:List PyData,hks xs=true->PyData.eqvAll xs xs=true
 | [],_=>by simp [PyData.eqvAll]
 | x::xs,h=>by
  rw [hks,av] at h
  rw [PyData.eqvAll,aL5 x h.1,aI0 xs h.2]
  rfl
end
noncomputable instance decPy:DecidableEq PyData:=fun a b=>Classical.propDecidable (a=b)
def aKs (h:Heap) (d:PyData) (a:Addr):Prop:=hk d=true/\d.depth<=8/\ ∃ as,Reads h (.ref a) d as
noncomputable def yZ (prog:Program) (w:World):HeapKind prog w PyData where
 is:=aKs
 hash:=hsh
 draws:=dr
 room:=fun A=>A.units+20<cLine
 inj:=fun {h a x y} k1 k2=>by
  obtain⟨a1,_,b1,c1⟩:=k1
  obtain⟨a2,_,b2,c2⟩:=k2
  exact SeqAt.Reads.unique x y _ b1 b2 (qG _ a1) c1 c2
 keeps:=fun {h h' k a d o es ep} k1 ho hd hs=>by
  obtain⟨a1,a2,b1,c1⟩:=k1
  exact⟨a1,a2,b1,rk1 ho hd hs _ _ _ a1 c1⟩
 pyHash:=fun {A E s k a Q} hu k1 hq=>by
  obtain⟨a1,a2,b1,c1⟩:=k1
  exact aD3 8 k _ b1 A s Q E a1 a2 c1 (by omega) hq
 eqBool:=fun {A E s x y a b Q} hu k1 k2 hq=>by
  obtain⟨a1,a2,b1,c1⟩:=k1
  obtain⟨a3,a4,b2,c2⟩:=k2
  have e:=SeqAt.eqAt_reads x y A s (.ref a) (.ref b) b1 b2 c1 c2 (qG _ a1) (qG _ a3) (by omega)
  refine e prog w E Q ?_
  by_cases z:x=y
  ·subst z
   rw [decide_eq_true rfl] at hq
   cases q:PyData.eqv x x with
   | true=>exact hq
   | false=>
    have:=aL5 x a1
    rw [this] at q;cases q
  ·rw [decide_eq_false z] at hq
   cases q:PyData.eqv x y with
   | false=>exact hq
   | true=>exact absurd (oK x y a1 a3 q) z
 quiet:=fun {A E s k a Q} k1 hq=>by
  obtain⟨a1,a2,b1,c1⟩:=k1
  exact yU 8 k _ b1 A s Q E a1 a2 c1 hq
mutual
theorem fX: ∀ d:D,hkD d=true->plain d=true
 | .non,_=>by simp [plain]
 | .int _,_=>by simp [plain]
 | .tup xs,h=>by simpa [plain] using jZ xs (by simpa [hkD] using h)
 | .bl _,h=>by simp [hkD] at h
 | .str _,h=>by simp [hkD] at h
 | .lst _,h=>by simp [hkD] at h
 | .exc _,h=>by simp [hkD] at h
 | .fn _,h=>by simp [hkD] at h
theorem jZ: ∀ ds:List D,aAx ds=true->a8 ds=true
 | [],_=>by simp [a8]
 | d::ds,h=>by
  have h':hkD d=true/\aAx ds=true:=by simpa [aAx] using h
  simp [a8,fX d h'.1,jZ ds h'.2]
end
mutual
theorem j0: ∀ d:D,hkD d=true->hk (bG d)=true/\hsh (bG d)=hD d
 | .non,_=>by simp [bG,hk,hsh,hD]
 | .int _,_=>by simp [bG,hk,hsh,hD]
 | .tup xs,h=>by
  have:=vK xs (by simpa [hkD] using h)
  simp [bG,hk,hsh,hD,this.1,this.2]
 | .bl _,h=>by simp [hkD] at h
 | .str _,h=>by simp [hkD] at h
 | .lst _,h=>by simp [hkD] at h
 | .exc _,h=>by simp [hkD] at h
 | .fn _,h=>by simp [hkD] at h
theorem vK: ∀ ds:List D,aAx ds=true->hks (dA ds)=true/\xG (dA ds)=hDs ds
 | [],_=>by simp [dA,hks,xG,hDs]
 | d::ds,h=>by
  have h':hkD d=true/\aAx ds=true:=by simpa [aAx] using h
  have h1:=j0 d h'.1
  have h2:=vK ds h'.2
  simp [dA,hks,xG,hDs,h1.1,h1.2,h2.1,h2.2]
end
theorem dP {k:D} (h:cJ k=true):tK k=true/\hkD k=true/\dep k<=8:=by
 simp only [cJ,av,decide_eq_true_eq] at h
 exact⟨h.1.1,h.1.2,h.2⟩
theorem vL {k l:D} (h1:cJ k=true) (h2:cJ l=true):deq k l=decide (bG k=bG l):=by
 have a1:=(dP h1).2.1
 have a2:=(dP h2).2.1
 rw [<-gI k l (fX k a1) (fX l a2)]
 by_cases z:bG k=bG l
 ·rw [decide_eq_true z,z];exact aL5 _ (j0 l a2).1
 ·rw [decide_eq_false z]
  refine Bool.eq_false_iff.mpr fun q=>z (oK _ _ (j0 k a1).1 (j0 l a2).1 q)
noncomputable def mkE (x:Int×Addr×Value):DictEntry:=⟨x.1, .ref x.2.1,x.2.2⟩
noncomputable def y3 (p:D×D) (x:Int×Addr×Value):PyData×Addr×Value:=(bG p.1,x.2.1,x.2.2)
abbrev RX (p:Int×Addr×V) (q:Int×Addr×Value):Prop:=p.1=q.1/\p.2.1=q.2.1/\aP p.2.2 q.2.2
noncomputable def aBe (kvs:List (D×D)) (es:List (Int×Addr×V)) (k:D) (b:Addr) (v:V):List (Int×Addr×V):=
 if nJ kvs k then List.zipWith (fun p e=>if deq p.1 k then(e.1,e.2.1,v) else e) kvs es else es++[(hD k,b,v)]
noncomputable def aF7 (kvs:List (D×D)) (xs:List (Int×Addr×Value)) (k:D) (b:Addr) (u:Value):List (Int×Addr×Value):=
 if nJ kvs k then List.zipWith (fun p e=>if deq p.1 k then(e.1,e.2.1,u) else e) kvs xs else xs++[(hD k,b,u)]
section
variable {K:PySem.W.Frag} {ad:Ad} {G:Hp} {prog:Program} {w:World}
theorem vM {kvs:List (D×D)} {es:List (Int×Addr×V)} (h:DL K ad G kvs es):kvs.length=es.length:=Paired.length h
theorem aI1 {k d:D} {b:Addr} {v:V} (hk:Rep K ad G k (.ref b)) (hd:Rep K ad G d v) {kvs:List (D×D)} {es:List (Int×Addr×V)} (h:DL K ad G kvs es):DL K ad G (putK kvs k d) (aBe kvs es k b v):=by
 unfold putK aBe
 split
 ·have go: ∀ {kvs:List (D×D)} {es:List (Int×Addr×V)},DL K ad G kvs es->DL K ad G (kvs.map (fun p=>if deq p.1 k then(p.1,d) else p)) (List.zipWith (fun p e=>if deq p.1 k then(e.1,e.2.1,v) else e) kvs es):=by
   intro kvs es h
   induction h with
   | nil=>exact .nil
   | @cons p q _ _ r _ ih=>
    refine .cons ?_ ih
    dsimp only
    by_cases z:deq p.1 k=true
    ·rw [if_pos z,if_pos z];exact⟨r.1,r.2.1,hd⟩
    ·rw [if_neg z,if_neg z];exact r
  exact go h
 ·exact Paired.snoc h ⟨rfl,hk,hd⟩
theorem sB {kvs:List (D×D)} {k:D} (h: ¬ nJ kvs k=true): ∀ p∈kvs,deq p.1 k=false:=fun p hp=>by
 refine Bool.eq_false_iff.mpr fun z=>h ?_
 unfold nJ
 exact List.any_eq_true.mpr ⟨p,hp,z⟩
theorem vN {kvs:List (D×D)} {k d:D} (h:KOk kvs) (hk:cJ k=true):KOk (putK kvs k d):=by
 unfold putK
 split
 ·have e: ∀ p:D×D,(if deq p.1 k then(p.1,d) else p).1=p.1:=fun p=>by split<;>rfl
  refine⟨fun p hp=> ?_, ?_⟩
  ·obtain⟨q,hq,rfl⟩:=aq.mp hp
   rw [e];exact h.1 q hq
  ·refine List.pairwise_map.mpr (h.2.imp fun {p q} z=> ?_)
   rw [e,e];exact z
 ·rename_i hn
  refine⟨fun p hp=> ?_,List.pairwise_append.mpr ⟨h.2,List.pairwise_singleton _ _,fun p hp q hq=> ?_⟩⟩
  ·rcases List.mem_append.mp hp with z | z
   ·exact h.1 p z
   ·rw [List.mem_singleton.mp z];exact hk
  ·rw [List.mem_singleton.mp hq];exact sB hn p hp
theorem aI2 {k:D} {b:Addr} {v:V} {u:Value} (r:aP v u) (kvs:List (D×D)) {es:List (Int×Addr×V)} {xs:List (Int×Addr×Value)} (h:Paired RX es xs):Paired RX (aBe kvs es k b v) (aF7 kvs xs k b u):=by
 unfold aBe aF7
 split
 ·have go: ∀ {es:List (Int×Addr×V)} {xs:List (Int×Addr×Value)},Paired RX es xs-> ∀ kvs:List (D×D),Paired RX (List.zipWith (fun p e=>if deq p.1 k then(e.1,e.2.1,v) else e) kvs es) (List.zipWith (fun p e=>if deq p.1 k then(e.1,e.2.1,u) else e) kvs xs):=by
   intro es xs h
   induction h with
   | nil=>intro kvs;cases kvs<;>exact .nil
   | @cons p q _ _ r' _ ih=>
    intro kvs
    cases kvs with
    | nil=>exact .nil
    | cons c kvs=>
     refine .cons ?_ (ih kvs)
     dsimp only
     by_cases z:deq c.1 k=true
     ·rw [if_pos z,if_pos z];exact⟨r'.1,r'.2.1,r⟩
     ·rw [if_neg z,if_neg z];exact r'
  exact go h kvs
 ·exact Paired.snoc h ⟨rfl,rfl,r⟩
abbrev HX (p:D×D) (x:Int×Addr×Value):Prop:=x.1=hD p.1
theorem aI3 {kvs:List (D×D)} {es:List (Int×Addr×V)} {xs:List (Int×Addr×Value)} (hd:DL K ad G kvs es) (hx:Paired RX es xs):Paired HX kvs xs:=by
 induction hd generalizing xs with
 | nil=>cases hx;exact .nil
 | cons r _ ih=>
  cases hx with
  | cons r2 hx=>exact .cons (by show _=_;rw [<-r2.1,r.1]) (ih hx)
theorem aI4 {kvs:List (D×D)} {xs:List (Int×Addr×Value)} {k d:D} {b:Addr} {u:Value} (h:Paired HX kvs xs):Paired HX (putK kvs k d) (aF7 kvs xs k b u):=by
 unfold putK aF7
 split
 ·have go: ∀ {kvs:List (D×D)} {xs:List (Int×Addr×Value)},Paired HX kvs xs->Paired HX (kvs.map (fun p=>if deq p.1 k then(p.1,d) else p)) (List.zipWith (fun p e=>if deq p.1 k then(e.1,e.2.1,u) else e) kvs xs):=by
   intro kvs xs h
   induction h with
   | nil=>exact .nil
   | @cons p q _ _ r _ ih=>
    refine .cons ?_ ih
    dsimp only
    by_cases z:deq p.1 k=true
    ·rw [if_pos z,if_pos z];exact r
    ·rw [if_neg z,if_neg z];exact r
  exact go h
 ·exact Paired.snoc h rfl
theorem aBf {kvs:List (D×D)} {xs:List (Int×Addr×Value)} (h:Paired HX kvs xs) (hk: ∀ p∈kvs,cJ p.1=true):(List.zipWith y3 kvs xs).map (entryOfKey (yZ prog w))=xs.map mkE:=by
 induction h with
 | nil=>rfl
 | @cons p x _ _ r _ ih=>
  show _::_=_::_
  rw [ih fun p hp=>hk p (.tail _ hp)]
  congr 1
  show(⟨hsh (bG p.1), .ref x.2.1,x.2.2⟩:DictEntry)=⟨x.1, .ref x.2.1,x.2.2⟩
  rw [(j0 p.1 (dP (hk p (.head _))).2.1).2, <-r]
theorem aD6 {h:Heap} {kvs:List (D×D)} {es:List (Int×Addr×V)} {xs:List (Int×Addr×Value)} (hr: ∀ k b,cJ k=true->Rep K ad G k (.ref b)->aKs h (bG k) b) (hd:DL K ad G kvs es) (hx:Paired RX es xs) (hk: ∀ p∈kvs,cJ p.1=true):
  (∀ y∈List.zipWith y3 kvs xs,aKs h y.1 y.2.1)/\(List.zipWith y3 kvs xs).map (·.1)=kvs.map fun p=>bG p.1:=by
 induction hd generalizing xs with
 | nil=>cases hx;exact⟨fun y hy=>by simp at hy,rfl⟩
 | @cons p q _ _ r _ ih=>
  cases hx with
  | @cons _ x _ xs r2 hx=>
   obtain⟨i2,i3⟩:=ih hx fun p hp=>hk p (.tail _ hp)
   have kp:=hk p (.head _)
   refine⟨fun y hy=> ?_, ?_⟩
   ·rcases au.mp hy with rfl | hy
    ·have:=hr p.1 q.2.1 kp r.2.1
     rw [r2.2.1] at this
     exact this
    ·exact i2 y hy
   ·show _::_=_::_
    rw [i3]
    rfl
theorem aI5 {kvs:List (D×D)} {xs:List (Int×Addr×Value)} {k:D} (hk:cJ k=true) (hl:kvs.length=xs.length) (ha: ∀ p∈kvs,cJ p.1=true):(atKey (List.zipWith y3 kvs xs) (bG k)).isSome=nJ kvs k:=by
 unfold atKey nJ
 rw [Option.isSome_map]
 induction kvs generalizing xs with
 | nil=>rfl
 | cons p kvs ih=>
  cases xs with
  | nil=>cases hl
  | cons x xs=>
   have i:=ih (xs:=xs) (by simpa using hl) fun p hp=>ha p (.tail _ hp)
   show((y3 p x::List.zipWith y3 kvs xs).find? _).isSome=_
   rw [List.find?_cons,List.any_cons,vL (ha p (.head _)) hk]
   show Option.isSome (match decide (bG p.1=bG k) with | true=>some (y3 p x) | false=>_)=_
   cases decide (bG p.1=bG k) with
   | true=>rfl
   | false=>exact i
theorem aI6 {kvs:List (D×D)} {xs:List (Int×Addr×Value)} {k d:D} {b:Addr} {u:Value} (hk:cJ k=true) (hl:kvs.length=xs.length) (ha: ∀ p∈kvs,cJ p.1=true):
  storedH (List.zipWith y3 kvs xs) (bG k) b u=List.zipWith y3 (putK kvs k d) (aF7 kvs xs k b u):=by
 unfold storedH putK aF7
 rw [aI5 hk hl ha]
 by_cases z:nJ kvs k=true
 ·rw [if_pos z,if_pos z,if_pos z]
  clear z
  induction kvs generalizing xs with
  | nil=>rfl
  | cons p kvs ih=>
   cases xs with
   | nil=>cases hl
   | cons x xs=>
    have i:=ih (xs:=xs) (by simpa using hl) fun p hp=>ha p (.tail _ hp)
    show putAt (bG k) u (y3 p x)::_=y3 _ _::_
    rw [i]
    congr 1
    unfold putAt
    have e:=vL (ha p (.head _)) hk
    by_cases q:bG p.1=bG k
    ·rw [decide_eq_true q] at e
     have e1:(if(y3 p x).1=bG k then((y3 p x).1,(y3 p x).2.1,u) else y3 p x)=((y3 p x).1,(y3 p x).2.1,u):=if_pos q
     rw [e1]
     dsimp only
     rw [if_pos e,if_pos e]
     rfl
    ·rw [decide_eq_false q] at e
     have e1:(if(y3 p x).1=bG k then((y3 p x).1,(y3 p x).2.1,u) else y3 p x)=y3 p x:=if_neg q
     have e': ¬ deq p.1 k=true:=by rw [e];exact bf
     rw [e1]
     dsimp only
     rw [if_neg e',if_neg e']
 ·rw [if_neg z,if_neg z,if_neg z,List.zipWith_append hl]
  rfl
end
section
variable {X:Cx} {ad:Ad} {Z:(St->Nat->Hp->Prop)->Prop} {pins:List (Addr×Obj)} {s:Shared} {σ:St} {H G G₀:Hp} {ρ:Rho} {D':Ends} {E:St->Nat->Hp->Prop} {pos pos':Pos} {e:Expr} {f:F} {g h:FS} {st:Stmt} {sts:List Stmt}
theorem _root_.L2.Inv.big (I:Inv X pins σ H s):(s.heap.objs.size==sysModules)=false:=by
 obtain⟨o,_,_,ho,_⟩:=I.mod.glob
 have h:=ah (I.bk _ _ ho)
 have e:mainGlobals=3:=rfl
 have e2:sysModules=1:=rfl
 rw [e] at h
 rw [e2]
 exact beq_false_of_ne (fun z:s.heap.objs.size=1=>by have h2:(3:Nat)<s.heap.objs.size:=h;rw [z] at h2;exact absurd h2 (by decide))
theorem aBg {h:Heap} {a:Addr} {es:Nat×List (Int×Addr×V)} (d:aLw h a es):ObjOk X.prog X.w H h a (dcO a es):=by
 refine⟨d, ?_,fun h1 h2 d k=> ?_⟩
 ·obtain⟨_,_,o,_,_,ho,_⟩:=d
  exact⟨o,ho⟩
 ·obtain⟨z,l,o,ar,xs,ho,r⟩:=d
  exact⟨z,l,o,ar,xs,k _ ho,r⟩
noncomputable def tD0:TE:=fun _ H Q=> ∀ p,H p=none->Q (.ref p) (upd H p (dcO p (0,[])))
theorem y0:PE X (.Dict [] [] pos) tD0:=by
 intro pins s σ H Q I hq
 refine wpAny_Dict_empty ?_
 have hf:H s.heap.objs.size=none:=I.hok.fresh (aj _)
 refine⟨.ref s.heap.objs.size,upd H s.heap.objs.size (dcO s.heap.objs.size (0,[])),I.laid (t':=s.toks) (fun b u e=>af _ e) (aj _) (aBg ?_),rfl,hq _ hf⟩
 exact⟨I.big,by decide,_, #[],[],ag _ rfl,⟨rfl,rfl,rfl⟩,rfl,rfl, .nil⟩
theorem aD7 {i:Nat} {x:Str} {p:Pos} (hN:X.N.Nodup) (hi:X.N[i]? =some x) (hx:Loc X.env.scope x) (hs:swapsWith (.Dict [] [] p) (some (.Name x pos')) pos.line X.env=pure false) (hf:X.fn x=true\/X.env.scope.names.lookup x=some .local):
  MS X ad Z (.Assign [.Name x pos'] (.Dict [] [] p) pos) (aCq i):=by
 refine PS.imp (jN hN hi hx y0 hs hf) ?_
 rintro D' σ H ⟨G₀,G,ρ,E,S,hx,hr⟩
 exact fun q n=>hr _ G _ (S.setNew (Step.own S.st.gh n) n ⟨q,(0,[]),rfl,S.st.gh.free n,aE, .nil,fun p hp=>by simp at hp, .nil⟩)
theorem vO {k:D} {b:Addr} (I:Inv X pins σ H s) (hG:Same G H) (hk:cJ k=true) (r:Rep X.K ad G k (.ref b)):aKs s.heap (bG k) b:=by
 obtain⟨h1,h2,h3⟩:=dP hk
 obtain⟨as,q⟩:=dC I hG (fX k h2) r (u:= .ref b) rfl
 exact⟨(j0 k h2).1,by rw [gW];exact h3,as,q⟩
theorem aD8 {a:Addr} {es:Nat×List (Int×Addr×V)} {kvs:List (D×D)} (I:Inv X pins σ H s) (hG:Same G H) (ha:H a=some (dcO a es)) (hd:DR X.K ad G kvs es) (hk:KOk kvs):
  (a==sysModules)=false/\es.2.length<=200000/\ ∃ xs,Paired RX es.2 xs/\s.heap.DictOfH (yZ X.prog X.w) a (List.zipWith y3 kvs xs):=by
 obtain⟨⟨z,l,o,ar,xs,ho,he,hdat,hl,hx⟩,_,_⟩:=I.hok a _ ha
 obtain⟨o2,o3⟩:=aD6 (h:=s.heap) (fun k b h1 h2=>vO I hG h1 h2) hd hx hk.1
 refine⟨z,l,xs,hx,o,ar,es.1,ho,he,hdat, ?_,o2, ?_⟩
 ·rw [hl,aBf (aI3 hd hx) hk.1];rfl
 ·rw [o3]
  refine List.pairwise_map.mpr ?_
  have:=hk.2
  refine List.Pairwise.imp_of_mem ?_ this
  intro p q hp hq hn e
  rw [vL (hk.1 p hp) (hk.1 q hq),decide_eq_true e] at hn
  cases hn
noncomputable def aI7 (K:PySem.W.Frag) (ad:Ad):V->V->V->Hp->(Hp->Prop)->Prop:=fun o i v H Q=> ∃ a es b k G kvs,o= .ref a/\i= .ref b/\H a=some (dcO a es)/\Same G H/\DR K ad G kvs es/\KOk kvs/\Rep K ad G k (.ref b)/\cJ k=true/\kvs.length<LIM/\ ∀ n,Q (upd H a (dcO a (n,aBe kvs es.2 k b v)))
theorem y6 {kvs:List (D×D)} {es:List (Int×Addr×V)} {k:D} {b:Addr} {v:V}:(aBe kvs es k b v).length<=es.length+1:=by
 unfold aBe
 split
 ·rw [List.length_zipWith];omega
 ·simp
theorem y8 (hu:X.A.units+62<cLine):aGw X (aI7 X.K ad):=by
 intro pins s σ H o i v ov iv u Q I ro ri rv h
 obtain⟨a,es,b,k,G,kvs,rfl,rfl,ha,hG,hd,hko,rk,hk,hl,q⟩:=h
 cases ro
 cases ri
 obtain⟨hz,hln,xs,hx,hm⟩:=aD8 I hG ha hd hko
 have hlen:kvs.length=xs.length:=(vM hd).trans (Paired.length hx)
 have hle:=vM hd
 have hlim:LIM=100000:=rfl
 refine wpAny_mono (wpAny_setItem_heap (knd:=yZ X.prog X.w) (show X.A.in1.units+20<cLine by have:=X.A.in1_units;omega) (vO I hG hk rk) hm (fun h' hm' hs=> ?_) (by rw [List.length_zipWith];exact Nat.le_trans (Nat.min_le_left _ _) (Nat.le_trans (Nat.le_of_lt hl) (by decide)))) (fun _ _ z=>z) fun _ _ z=>z
 rw [aI6 (d:= .non) hk hlen hko.1] at hm'
 obtain⟨o',ar',ep',ho',he',hdat',hl',_⟩:=hm'
 refine⟨_,I.write (x:=a) (e:=a) (t':=_) (by rw [ha];trivial) (.inl rfl) (fun c u' hc qc=>(hs.2 c hc).trans qc) ⟨_,ho'⟩ (aBg ?_),q ep'⟩
 have hx':=aI2 (k:=k) (b:=b) rv kvs hx
 refine⟨hz,by have:= @y6 kvs es.2 k b v;show(aBe kvs es.2 k b v).length<=200000;omega,o',ar',_,ho',he',hdat', ?_,hx'⟩
 rw [hl',aBf (aI4 (aI3 hd hx)) (vN hko hk).1]
 rfl
end
section
variable {X:Cx} {ad:Ad} {Z:(St->Nat->Hp->Prop)->Prop} {pins:List (Addr×Obj)} {s:Shared} {σ:St} {H G G₀:Hp} {ρ:Rho} {D':Ends} {E:St->Nat->Hp->Prop} {pos pos':Pos} {e:Expr} {f:F} {g h:FS} {st:Stmt} {sts:List Stmt}
noncomputable def aL6 (K:PySem.W.Frag) (ad:Ad):V->V->V->Hp->(Hp->Prop)->Prop:=fun o i v H Q=>aHj o i v H Q\/aI7 K ad o i v H Q
theorem y9 (hu:X.A.units+62<cLine):aGw X (aL6 X.K ad):=fun pins s σ H o i v ov iv u Q I ro ri rv h=>
 h.elim (pJ pins s σ H o i v ov iv u Q I ro ri rv) (y8 hu pins s σ H o i v ov iv u Q I ro ri rv)
theorem qK {k:D} {v:V} (hk:cJ k=true) (r:Rep X.K ad G k v): ∃ b,v= .ref b:=by
 have h:=(dP hk).1
 cases k<;>try (cases h;done)
 unfold Rep at r
 obtain⟨a,_,rfl,_⟩:=r
 exact⟨a,rfl⟩
theorem aI8 {i:Nat} {x:Str} {p tp:Pos} {kx:Expr} {fk:F} (hu:X.A.units+62<cLine) (hN:X.N[i]? =some x) (hv:Vis X.env.scope x) (hd:(x==("__debug__":Str))=false) (hcd:(x==("__classdict__":Str))=false) (he:ME X ad e f) (hk:ME X ad kx fk)
  (ha: ∀ v,assign (.Subscript (.Name x p) kx tp) X.env v=(do
   let ov<-holding [v] (eval (.Name x p) X.env)
   let iv<-holding [v,ov] (eval kx X.env)
   standAt tp
   holding [v,ov,iv] (setItem ov iv v)
   release [v,ov,iv] [])) (hs:swapsWithSole [.Subscript (.Name x p) kx tp] e pos.line X.env=pure false) (hw:swappedStores [.Subscript (.Name x p) kx tp] e X.env=pure none):
  MS X ad Z (.Assign [.Subscript (.Name x p) kx tp] e pos) (aAy i fk f):=by
 refine PS.imp (sR he (aGy (aZ hN hv hd hcd) hk (y9 (ad:=ad) hu) ha) hs hw rfl) ?_
 rintro D' σ H ⟨G₀,G,ρ,E,S,hx,hr⟩
 unfold aAy at hr
 refine dB S hx hr fun v d G1 H1 st r k=> ?_
 cases q:ρ[i]? with
 | none=>rw [q] at k;exact k.elim
 | some sl=>
  rw [q] at k
  cases sl with
  | no=>exact k.elim
  | sh d=>exact k.elim
  | sd d=>exact k.elim
  | rk _ _=>exact k.elim
  | ow xs=>
   obtain⟨a,vs,h1,h2,h3,h4⟩:=(S.step st).sl.ow q
   refine⟨.ref a,h1, ?_⟩
   refine dB (S.step st) hx k fun v2 y G2 H2 st2 r2 k2=> ?_
   obtain⟨g2,h2'⟩:=cR st2 h2 h3
   cases y<;>try exact az k2
   rename_i j
   unfold Rep at r2;subst r2
   have k':OKo X ad G₀ (match ixD xs.length j with | some m=> .nx (ρ.set i (.ow (xs.set m d))) | none=> .rt .bad) D' E:=k2
   cases q2:ixD xs.length j with
   | none=>rw [q2] at k';exact k'.elim
   | some m=>
    rw [q2] at k'
    have r4:=h4.mono st2.sg
    refine .inl ⟨a,vs,j,m,rfl,rfl,h2',by rw [h4.length, <-pU];exact q2, ?_⟩
    exact k' σ G2 _ (((S.step st).step st2).upd q h1 g2 (aF.set (r.mono st2.sg) m r4))
  | dc kvs=>
   obtain⟨a,es,h1,h2,h3,h4,h5⟩:=(S.step st).sl.dc q
   refine⟨.ref a,h1, ?_⟩
   refine dB (S.step st) hx k fun v2 y G2 H2 st2 r2 k2=> ?_
   have S2:=(S.step st).step st2
   obtain⟨a',es',h1',h2',h3',h4',h5'⟩:=S2.sl.dc q
   have ea:a'=a:=by rw [h1] at h1';cases h1';rfl
   subst ea
   have k':OKo X ad G₀ (if(cJ y&&decide (kvs.length<LIM))=true then .nx (ρ.set i (.dc (putK kvs y d))) else .rt .bad) D' E:=k2
   by_cases hc:(cJ y&&decide (kvs.length<LIM))=true
   ·rw [if_pos hc] at k'
    rw [av,decide_eq_true_eq] at hc
    obtain⟨b,rfl⟩:=qK hc.1 r2
    refine .inr ⟨a',es',b,y,G2,kvs,rfl,rfl,h3',st2.gh,h4',h5',r2,hc.1,hc.2, ?_⟩
    exact fun n=>k' σ G2 _ (S2.updG q rfl h1 ⟨a',_,rfl,h2',aE,aI1 r2 (r.mono st2.sg) h4',vN h5' hc.1⟩)
   ·rw [if_neg hc] at k'
    exact k'.elim
theorem RK.bool_share {a:Addr} {vs:List V} {r:R} {Q:VK} {E:Nat->Hp->Prop} (hb:(∃ b,r= .ok (.bl b))\/r= .bad) (g:G a=none) (k:RK X.K ad G H r Q E):RK X.K ad (upd G a (.lst vs)) H r Q E:=by
 rcases hb with ⟨b,rfl⟩ | rfl
 ·intro v G1 H1 st q
  have q':v= .bl b:=by unfold Rep at q;exact q
  subst q'
  refine k (.bl b) (fun c=>if c=a then none else G1 c) H1 ⟨fun c u e=> ?_,fun c u e=> ?_,st.sh,fun c e1 e2=> ?_⟩ aS
  ·have ne:c≠a:=aN e g
   show(if c=a then none else G1 c)=some u
   rw [if_neg ne]
   exact st.sg c u (by rw [aA ne];exact e)
  ·have e':(if c=a then none else G1 c)=some u:=e
   by_cases z:c=a
   ·rw [if_pos z] at e';cases e'
   ·rw [if_neg z] at e';exact st.gh c u e'
  ·have e':(if c=a then none else G1 c)≠none:=e2
   by_cases z:c=a
   ·rw [if_pos z] at e';exact absurd rfl e'
   ·rw [if_neg z] at e';exact st.nw c (by rw [aA z];exact e1) e'
 ·exact k
theorem oN {op:CmpOp} {x y:D} {v w:V} {u z:Value} {Q:VK} {E:Nat->Hp->Prop} (hu:X.A.units+62<cLine) (I:Inv X pins σ H s) (hG:Same G H) (qx:Seq X ad G H x v) (qy:Seq X ad G H y w) (ru:aP v u) (rz:aP w z)
  (k:RK X.K ad G H (g9 op x y) Q E):wpAny (model X.prog X.w) X.A (compareOp op u z) (EP X pins σ Q) X.xe s:=by
 have hb:=tZ (op:=op) (x:=x) (y:=y)
 -- the left one is shared for the time
 have sh: ∀ {G:Hp} {a:Addr} {vs:List V} {ds:List D},Same G H->H a=some (.lst vs)->aF X.K ad G ds vs->Same (upd G a (.lst vs)) H/\Rep X.K ad (upd G a (.lst vs)) (.lst ds) (.ref a):=fun {G a vs ds} hG h2 h3=>by
  have st:G a=none\/G a=some (.lst vs):=by
   cases q:G a with
   | none=>exact .inl rfl
   | some o=>rw [hG a o q] at h2;exact .inr h2
  have le:Same G (upd G a (.lst vs)):=fun b o e=>by
   by_cases zb:b=a
   ·subst zb
    rcases st with q | q
    ·rw [q] at e;cases e
    ·rw [aE, <-q];exact e
   ·rw [aA zb];exact e
  refine⟨fun b o e=> ?_, ?_⟩
  ·by_cases zb:b=a
   ·subst zb;rw [aE] at e;cases e;exact h2
   ·rw [aA zb] at e;exact hG b o e
  ·unfold Rep
   exact⟨a,vs,rfl,SqL.of aE,h3.mono le⟩
 have mo: ∀ {G:Hp} {a:Addr} {vs:List V},G a=none->Same G (upd G a (.lst vs)):=fun g=>Same.upd_new g
 have right: ∀ {G:Hp},Same G H->Rep X.K ad G x v->Seq X ad G H y w->RK X.K ad G H (g9 op x y) Q E->wpAny (model X.prog X.w) X.A (compareOp op u z) (EP X pins σ Q) X.xe s:=fun {G} hG rx qy k=>by
  rcases qy with ry | ⟨a,vs,ds,rfl,rfl,g1,h2,h3⟩
  ·exact gK op hu pins s σ H G x y v w u z Q E I hG rx ry ru rz k
  ·obtain⟨s1,s2⟩:=sh hG h2 h3
   exact gK op hu pins s σ H _ x _ v _ u z Q E I s1 (rx.mono (mo g1)) s2 ru rz (k.bool_share hb g1)
 rcases qx with rx | ⟨a,vs,ds,rfl,rfl,g1,h2,h3⟩
 ·exact right hG rx qy k
 ·obtain⟨s1,s2⟩:=sh hG h2 h3
  refine right s1 s2 ?_ (k.bool_share hb g1)
  rcases qy with ry | ⟨a',vs',ds',rfl,rfl,g1',h2',h3'⟩
  ·exact .inl (ry.mono (mo g1))
  ·by_cases za:a'=a
   ·subst za
    rw [h2] at h2'
    cases h2'
    refine .inl ?_
    unfold Rep
    exact⟨a',vs,rfl,SqL.of aE,h3'.mono (mo g1)⟩
   ·exact .inr ⟨a',vs',ds',rfl,rfl,by rw [aA za];exact g1',h2',h3'.mono (mo g1)⟩
theorem vP {op:CmpOp} {a b:Expr} {f g:F} {Q:VK} {E:Nat->Hp->Prop} (hu:X.A.units+62<cLine) (ha:MLk X ad a f) (hb:MLk X ad b g) (I:Inv X pins σ H s) (hG:Same G H) (hS:SL X.K ad G H ρ σ) (hx:XP X ad σ E) (hr:RK X.K ad G H (bW op f g ρ) Q E):
  wpAny (model X.prog X.w) X.A (eval a X.env) (fun u s1=>wpAny (model X.prog X.w) X.A (eval b X.env) (fun z s2=>wpAny (model X.prog X.w) X.A (compareOp op u z) (EP X pins σ Q) X.xe s2) X.xe s1) X.xe s:=by
 refine L2.thn (ha pins s σ H G ρ (fun x=>(g ρ).bind fun y=>g9 op x y) Q E I hG hS hx hr) fun u s1 hz1=> ?_
 obtain⟨v,d1,G1,H1,I1,r1,st1,q1,k1⟩:=hz1
 refine L2.thn (hb pins s1 σ H1 G1 ρ (fun y=>g9 op d1 y) Q E I1 st1.gh (hS.step st1) hx k1) fun z s2 hz2=> ?_
 obtain⟨w,d2,G2,H2,I2,r2,st2,q2,k2⟩:=hz2
 exact oN hu I2 st2.gh (Seq.step q1 st2) q2 r1 r2 k2
theorem vQ {op:CmpOp} {a b:Expr} {f g:F} (hu:X.A.units+62<cLine) (ha:MLk X ad a f) (hb:MLk X ad b g) (hm:behindInMarks op b=false):ME X ad (.Compare a [op] [b] pos) (bW op f g):=by
 intro pins s σ H Q I ⟨G,ρ,E,hG,hS,hx,hr⟩
 exact wpAny_Compare1 (vP hu ha hb I hG hS hx hr) hm
theorem lE {op:CmpOp} {a b:Expr} {F':F} (hm:behindInMarks op b=false)
  (go: ∀ {pins:List (Addr×Obj)} {s:Shared} {σ:St} {H G:Hp} {ρ:Rho} {Q:VK} {E:Nat->Hp->Prop},Inv X pins σ H s->Same G H->SL X.K ad G H ρ σ->XP X ad σ E->RK X.K ad G H (F' ρ) Q E->
   wpAny (model X.prog X.w) X.A (eval a X.env) (fun u s1=>wpAny (model X.prog X.w) X.A (eval b X.env) (fun z s2=>wpAny (model X.prog X.w) X.A (compareOp op u z) (EP X pins σ Q) X.xe s2) X.xe s1) X.xe s):MT X ad (.Compare a [op] [b] pos) F':=by
 intro pins s σ H Q I ⟨G,ρ,E,hG,hS,hx,ht,hr⟩
 refine wpAny_isTrue_Compare1 (L2.thn (go I hG hS hx hr) fun v s1 h1=>L2.thn h1 fun u s2 h2=>L2.thn h2 fun c s3 hz=> ?_) hm
 obtain⟨x,H1,I1,r1,k,e,q⟩:=hz
 subst e
 cases r1
 exact wpAny_truthy_bool ⟨H1,I1,q⟩
theorem vR {op:CmpOp} {a b:Expr} {f g:F} (hu:X.A.units+62<cLine) (ha:MLk X ad a f) (hb:MLk X ad b g) (hm:behindInMarks op b=false):MT X ad (.Compare a [op] [b] pos) (bW op f g):=
 lE hm fun I hG hS hx hr=>vP hu ha hb I hG hS hx hr
theorem oO {x y:Value} {A:Around} {E':Value->Shared->Prop} {Q:Bool->Shared->Prop} (h:wpAny (model X.prog X.w) A (compareOp .In x y) (fun v s=> ∃ b,v= .bool b/\Q b s) E' s):wpAny (model X.prog X.w) A (contains y x) Q E' s:=fun Γ p hΓ=>by
 have t:=h Γ p hΓ
 rw [show compareOp .In x y=(contains y x >>= fun b=>pure (.bool b)) from rfl,Sem.wp_bind'] at t
 refine Sem.wp_mono _ _ _ (fun b p' s' q=> ?_) (fun _ _ _ q=>q) _ _ t
 rw [Sem.wp_pure'] at q
 obtain⟨b',e,q⟩:=q
 cases e
 exact q
theorem vS {op:CmpOp} {x:D} {v:V} {u:Value} {a:Addr} {es:Nat×List (Int×Addr×V)} {kvs:List (D×D)} {Q:VK} {E:Nat->Hp->Prop} (hu:X.A.units+62<cLine) (I:Inv X pins σ H s) (hG:Same G H) (ru:aP v u) (rx:Rep X.K ad G x v) (hk:cJ x=true)
  (ha:H a=some (dcO a es)) (hd:DR X.K ad G kvs es) (hko:KOk kvs) (k:RK X.K ad G H (inK op (nJ kvs x)) Q E):wpAny (model X.prog X.w) X.A (compareOp op u (.ref a)) (EP X pins σ Q) X.xe s:=by
 obtain⟨b,rfl⟩:=qK hk rx
 cases ru
 obtain⟨hz,hln,xs,hx,hm⟩:=aD8 I hG ha hd hko
 have hlen:kvs.length=xs.length:=(vM hd).trans (Paired.length hx)
 have go:wpAny (model X.prog X.w) X.A (contains (.ref a) (.ref b)) (fun c s'=>c=nJ kvs x/\Inv X pins σ H s') X.xe s:=by
  refine oO (wpAny_in_heap (knd:=yZ X.prog X.w) (show X.A.in1.units+20<cLine by have:=X.A.in1_units;omega) (vO I hG hk rx) hz hm ⟨_,rfl, ?_⟩)
  rw [aI5 hk hlen hko.1]
  exact⟨rfl,I.tok _⟩
 cases op<;>try exact az k
 ·rw [show compareOp .In (.ref b) (.ref a)=(contains (.ref a) (.ref b) >>= fun b=>pure (.bool b)) from rfl]
  refine aa (L2.thn go fun c s' hc=>ae ?_)
  obtain⟨rfl,I'⟩:=hc
  exact⟨.bl _,H,I',rfl,k.ok_now hG aS⟩
 ·rw [show compareOp .NotIn (.ref b) (.ref a)=(contains (.ref a) (.ref b) >>= fun b=>pure (.bool !b)) from rfl]
  refine aa (L2.thn go fun c s' hc=>ae ?_)
  obtain⟨rfl,I'⟩:=hc
  exact⟨.bl _,H,I',rfl,k.ok_now hG aS⟩
theorem aBh {op:CmpOp} {a:Expr} {f:F} {i:Nat} {x:Str} {p:Pos} {Q:VK} {E:Nat->Hp->Prop} (hN:X.N[i]? =some x) (hv:Vis X.env.scope x) (hd:(x==("__debug__":Str))=false) (hcd:(x==("__classdict__":Str))=false) (hu:X.A.units+62<cLine) (ha:MLk X ad a f) (I:Inv X pins σ H s) (hG:Same G H) (hS:SL X.K ad G H ρ σ) (hx:XP X ad σ E) (hr:RK X.K ad G H (aHu op f i ρ) Q E):
  wpAny (model X.prog X.w) X.A (eval a X.env) (fun u s1=>wpAny (model X.prog X.w) X.A (eval (.Name x p) X.env) (fun z s2=>wpAny (model X.prog X.w) X.A (compareOp op u z) (EP X pins σ Q) X.xe s2) X.xe s1) X.xe s:=by
 refine L2.thn (ha pins s σ H G ρ (fun x=>match ρ[i]? with
  | some (.dc kvs)=>if cJ x then inK op (nJ kvs x) else .bad
  | some (.sd kvs)=>if cJ x then inK op (nJ kvs x) else .bad
  | some (.sh y)=>g9 op x y
  | some (.ow ys)=>g9 op x (.lst ys)
  | _=> .bad) Q E I hG hS hx hr) fun u s1 hz1=> ?_
 obtain⟨v,d1,G1,H1,I1,r1,st1,q1,k1⟩:=hz1
 have S1:=hS.step st1
 cases e:ρ[i]? with
 | none=>rw [e] at k1;exact k1.elim
 | some sl=>
  rw [e] at k1
  have look: ∀ (w:V),σ[i]? =some (some w)->(∀ z s2,Inv X pins σ H1 s2->aP w z->wpAny (model X.prog X.w) X.A (compareOp op u z) (EP X pins σ Q) X.xe s2)->
    wpAny (model X.prog X.w) X.A (eval (.Name x p) X.env) (fun z s2=>wpAny (model X.prog X.w) X.A (compareOp op u z) (EP X pins σ Q) X.xe s2) X.xe s1:=fun w h1 h=>by
   refine L2.thn (aZ hN hv hd hcd pins s1 σ H1 (fun v' H'=>v'=w/\H'=H1) I1 ⟨w,h1,rfl,rfl⟩) fun z s2 hz_=> ?_
   obtain⟨v',H',I2,r2,e1,e2⟩:=hz_
   subst e1;subst e2
   exact h z s2 I2 r2
  cases sl with
  | no=>exact k1.elim
  | rk _ _=>exact k1.elim
  | sh y=>
   obtain⟨w,h1,h2⟩:=S1.sh e
   exact look w h1 fun z s2 I2 r2=>oN hu I2 st1.gh q1 (.inl h2) r1 r2 k1
  | ow ys=>
   obtain⟨b,vs,h1,h2,h3,h4⟩:=S1.ow e
   exact look _ h1 fun z s2 I2 r2=>oN hu I2 st1.gh q1 (.inr ⟨b,vs,ys,rfl,rfl,h2,h3,h4⟩) r1 r2 k1
  | dc kvs=>
   obtain⟨b,es,h1,h2,h3,h4,h5⟩:=S1.dc e
   have k2:RK X.K ad G1 H1 (if cJ d1=true then inK op (nJ kvs d1) else .bad) Q E:=k1
   by_cases hk:cJ d1=true
   ·rw [if_pos hk] at k2
    refine look _ h1 fun z s2 I2 r2=> ?_
    cases r2
    rcases q1 with q1 | ⟨_,_,ds,rfl,_⟩
    ·exact vS hu I2 st1.gh r1 q1 hk h3 h4 h5 k2
    ·exact absurd (dP hk).1 bf
   ·rw [if_neg hk] at k2
    exact k2.elim
  | sd kvs=>
   obtain⟨b,es,h1,h2,h3,h4,h5⟩:=S1.sd e
   have k2:RK X.K ad G1 H1 (if cJ d1=true then inK op (nJ kvs d1) else .bad) Q E:=k1
   by_cases hk:cJ d1=true
   ·rw [if_pos hk] at k2
    refine look _ h1 fun z s2 I2 r2=> ?_
    cases r2
    rcases q1 with q1 | ⟨_,_,ds,rfl,_⟩
    ·exact vS hu I2 st1.gh r1 q1 hk h3 h4 h5 k2
    ·exact absurd (dP hk).1 bf
   ·rw [if_neg hk] at k2
    exact k2.elim
theorem aI9 {op:CmpOp} {a:Expr} {f:F} {i:Nat} {x:Str} {p:Pos} (hN:X.N[i]? =some x) (hv:Vis X.env.scope x) (hd:(x==("__debug__":Str))=false) (hcd:(x==("__classdict__":Str))=false) (hu:X.A.units+62<cLine) (ha:MLk X ad a f) (hm:behindInMarks op (.Name x p)=false):ME X ad (.Compare a [op] [.Name x p] pos) (aHu op f i):=by
 intro pins s σ H Q I ⟨G,ρ,E,hG,hS,hx,hr⟩
 exact wpAny_Compare1 (aBh hN hv hd hcd hu ha I hG hS hx hr) hm
theorem aJa {op:CmpOp} {a:Expr} {f:F} {i:Nat} {x:Str} {p:Pos} (hN:X.N[i]? =some x) (hv:Vis X.env.scope x) (hd:(x==("__debug__":Str))=false) (hcd:(x==("__classdict__":Str))=false) (hu:X.A.units+62<cLine) (ha:MLk X ad a f) (hm:behindInMarks op (.Name x p)=false):MT X ad (.Compare a [op] [.Name x p] pos) (aHu op f i):=
 lE hm fun I hG hS hx hr=>aBh hN hv hd hcd hu ha I hG hS hx hr
end
section
variable {prog:Program} {w:World} {A:Around} {E:Value->Shared->Prop} {s:Shared}
theorem aD9 {d:Addr} {o:Obj} {ar:Array DictEntry} {ep:Nat} {Q:Value->Shared->Prop} (hd:(d==sysModules)=false) (ho:s.heap.get? d=some o) (hc:o.ExactDict) (hdat:o.data= .dict ar ep)
  (hQ:Q (.ref s.heap.objs.size) { s with heap:=s.heap.push { cls:= .type "dict_keyiterator",data:= .fields #[.ref d, .int 0 0, .int ar.size 0, .int ep 0] } }):
  wpAny (model prog w) A (pyIter (.ref d)) Q E s:=by
 have ty:s.TypeIs (.ref d) "dict":=⟨o,ho,hc.1⟩
 refine wpAny_pyIter_slot ty F.slot_dict_iter (wpAny_call_entry F.slot_dict_iter ty F.entry_dict_iter ?_ (F.args_dict_iter_1 _))
 unfold Builtin.«dict.__iter__» Builtin.Dict.dictSlotNone
 refine aa (aa (wpAny_notOrdered_dict ty ?_))
 refine ae ?_
 unfold Builtin.Dict.showsAll
 show wpAny _ _ ((if(d==sysModules)=true then _ else _) >>= _) _ _ s
 rw [hd,if_neg bf]
 refine aa (ae (aa (wpAny_dictEntries ho hdat (aa (wpAny_dictEpoch ho hdat ?_)))))
 refine aa (wpAny_newObj_type (ae ⟨_,rfl,"dict_keyiterator",_,⟨_,ag _ rfl,rfl⟩,F.slot_dict_keyiterator_next.lookup, ?_⟩))
 simpa [rawInt] using hQ
theorem aEa {it d:Addr} {i ep:Nat} {o:Obj} {ar:Array DictEntry} {Q:Option Value->Shared->Prop} (hit:s.heap.IsKeyIter it d i ar.size ep) (ho:s.heap.get? d=some o) (hdat:o.data= .dict ar ep) (hi:i<ar.size)
  (hQ: ∀ h',h'.IsKeyIter it d (i+1) ar.size ep->Heap.SameBut it s.heap h'->Q (some ar[i].key) { s with heap:=h' }):wpAny (model prog w) A (pyNext (.ref it)) Q E s:=by
 obtain⟨oi,hoi,hci,hdi⟩:=id hit
 have ty:=hit.typeIs
 unfold pyNext
 refine aa (wpAny_attempt (wpAny_callSpecial?_slot (name:=Str.ofString "__next__") ty F.slot_dict_keyiterator_next (wpAny_call_entry F.slot_dict_keyiterator_next ty F.entry_dict_keyiterator_next ?_ (F.args_dict_keyiterator_next_1 _))))
 refine aa (ae (aa (aa ?_)))
 first
  | refine aa (wpAny_typeNameOfWhole_keyiter ty (ae (aa (wpAny_fieldsOf hoi hdi ?_))))
  | refine aa (wpAny_typeNameOf_keyiter ty (ae (aa (wpAny_fieldsOf hoi hdi ?_))))
 have own:Builtin.Dict_items.ownsTuple "dict_keyiterator"=false:=by decide
 simp only [own,ay,if_false]
 show wpAny _ _ (if(Value.ref d==Value.none)=true then _ else _) _ _ s
 rw [if_neg (show ¬ (Value.ref d==Value.none)=true from bf)]
 refine aa (ae (aa (wpAny_dictEntries ho hdat ?_)))
 rw [if_neg (by simp)]
 refine aa (ae (aa (wpAny_dictEpoch ho hdat ?_)))
 rw [if_neg (by simp)]
 refine ae ?_
 simp only [show ¬ ((i:Int)<0) from by omega,if_false,Int.toNat_natCast,Array.getElem?_eq_getElem hi]
 refine aa ?_
 first
  | refine aa (wpAny_typeNameOfWhole_keyiter ty (ae (aa (wpAny_isOneOf_keyiter ty ?_))))
  | refine aa (wpAny_typeNameOf_keyiter ty (ae (aa (wpAny_isOneOf_keyiter ty ?_))))
  | refine aa (wpAny_typeNameOfWhole_keyiter ty (ae ?_))
 show wpAny _ _ (setField (.ref it) 1 (rawInt ((i:Int)+1)) >>= _) _ _ s
 refine aa (wpAny_setField hoi hdi (by simp) ?_)
 have nx:(s.heap.update it (Obj.mapFields (·.setIfInBounds 1 (rawInt ((i:Int)+1))))).IsKeyIter it d (i+1) ar.size ep:=
  ⟨_,Heap.get?_update_self _ hoi (Obj.isFreed_of_fields (Obj.data_mapFields hdi _)),(Obj.cls_mapFields ..).trans hci,by rw [Obj.data_mapFields hdi];simp [rawInt]⟩
 refine aa (wpAny_holding (aa (wpAny_isOneOf_keyiter (s:={ s with heap:=s.heap.update it (Obj.mapFields (·.setIfInBounds 1 (rawInt ((i:Int)+1)))) }) nx.typeIs ?_)))
 exact ae (ae ⟨_,rfl,ae (hQ _ nx (Heap.SameBut.update ..))⟩)
theorem aEb {it d:Addr} {i ep:Nat} {o:Obj} {ar:Array DictEntry} {Q:Option Value->Shared->Prop} (hh:A.handled=none) (hit:s.heap.IsKeyIter it d i ar.size ep) (ho:s.heap.get? d=some o) (hdat:o.data= .dict ar ep) (hi:ar.size<=i)
  (hQ: ∀ h',Heap.ExtBut it s.heap h'->Q none { s with heap:=h' }):wpAny (model prog w) A (pyNext (.ref it)) Q E s:=by
 obtain⟨oi,hoi,hci,hdi⟩:=id hit
 have ty:=hit.typeIs
 unfold pyNext
 refine aa (wpAny_attempt (wpAny_callSpecial?_slot (name:=Str.ofString "__next__") ty F.slot_dict_keyiterator_next (wpAny_call_entry F.slot_dict_keyiterator_next ty F.entry_dict_keyiterator_next ?_ (F.args_dict_keyiterator_next_1 _))))
 refine aa (ae (aa (aa ?_)))
 first
  | refine aa (wpAny_typeNameOfWhole_keyiter ty (ae (aa (wpAny_fieldsOf hoi hdi ?_))))
  | refine aa (wpAny_typeNameOf_keyiter ty (ae (aa (wpAny_fieldsOf hoi hdi ?_))))
 have own:Builtin.Dict_items.ownsTuple "dict_keyiterator"=false:=by decide
 simp only [own,ay,if_false]
 show wpAny _ _ (if(Value.ref d==Value.none)=true then _ else _) _ _ s
 rw [if_neg (show ¬ (Value.ref d==Value.none)=true from bf)]
 refine aa (ae (aa (wpAny_dictEntries ho hdat ?_)))
 rw [if_neg (by simp)]
 refine aa (ae (aa (wpAny_dictEpoch ho hdat ?_)))
 rw [if_neg (by simp)]
 refine ae ?_
 simp only [show ¬ ((i:Int)<0) from by omega,if_false,Int.toNat_natCast,Array.getElem?_eq_none hi]
 refine aa ?_
 first
  | refine aa (wpAny_typeNameOfWhole_keyiter ty (ae ?_))
  | refine aa (wpAny_typeNameOf_keyiter ty (ae ?_))
 show wpAny _ _ (setField (.ref it) 0 .none >>= _) _ _ s
 refine aa (wpAny_setField hoi hdi (by simp) (aa ?_))
 simp only [newExc,newTuple]
 refine aa (wpAny_newObj_type (aa (m:=firstArgMember _ _) (wpAny_of_eq (a:=Value.none) (by first | rfl | (simp only [firstArgMember];rfl)) (wpAny_newObj_type ?_ (by size_fits)))) (by size_fits))
 simp only [raiseNew]
 refine aa (wpAny_handled ?_)
 rw [show A.in1.handled=none from hh]
 refine aa (ae (wpAny_throw ?_))
 refine aa (wpAny_isInstance (b:=true) (T:="StopIteration") ⟨_,ag _ rfl,rfl⟩ isSubtype_stop ?_)
 exact ae (hQ _ (((Heap.SameBut.update ..).extBut.push _).push _))
end
noncomputable def Itd (a:Addr) (ep n:Nat):It:=
 ⟨fun i H=>i<n/\ ∃ es,H a=some (dcO a (ep,es))/\es.length=n,fun i H x H'=>H'=H/\ ∀ es,H a=some (dcO a es)-> ∃ e,es.2[i]? =some e/\x= .ref e.2.1,fun i H=>n<=i/\ ∃ es,H a=some (dcO a (ep,es))/\es.length=n⟩
theorem mW {α β:Type} {R:α->β->Prop}: ∀ {l:List α} {m:List β},Paired R l m-> ∀ {i:Nat} {b:β},m[i]? =some b-> ∃ a,l[i]? =some a/\R a b
 | _,_, .nil,i,b,h=>by simp at h
 | _,_, .cons r t,0,b,h=>by simp at h;subst h;exact⟨_,rfl,r⟩
 | _,_, .cons r t,i+1,b,h=>by
  obtain⟨a,e,r⟩:=mW t (i:=i) (b:=b) (by simpa using h)
  exact⟨a,by simpa using e,r⟩
theorem j4 {α β:Type} {R:α->β->Prop}: ∀ {l:List α} {m:List β},Paired R l m-> ∀ {i:Nat} {a:α},l[i]? =some a-> ∃ b,m[i]? =some b/\R a b
 | _,_, .nil,i,b,h=>by simp at h
 | _,_, .cons r t,0,b,h=>by simp at h;subst h;exact⟨_,rfl,r⟩
 | _,_, .cons r t,i+1,b,h=>by
  obtain⟨a,e,r⟩:=j4 t (i:=i) (a:=b) (by simpa using h)
  exact⟨a,by simpa using e,r⟩
theorem vT {P:Program} {w:World} {K:PySem.W.Frag} {tg:Expr} (a it:Addr) (ep n:Nat):Turn P w K tg (Itd a ep n) [it] it (fun i h=>h.IsKeyIter it a i n ep) where
 mem:=by simp
 obj:=fun i h st b hb=>by
  have e:b=it:=by simpa using hb
  subst e
  obtain⟨o,e,c,d⟩:=st
  exact⟨o,e,fun v z=>by rw [d] at z;cases z⟩
 keep:=fun i h h' st k=>st.at fun o e=>k it (by simp) o e
 item:=by
  intro X hP hw hK hc i pins s σ H E I hf st hg
  subst hP hw hK
  obtain⟨hi,es,ha,hl⟩:=hg
  obtain⟨⟨z,l,o,ar,xs,ho,he,hdat,har,hx⟩,_,_⟩:=I.hok a _ ha
  have sz:ar.size=n:=by rw [<-Array.length_toList,har,ao, <-Paired.length hx];exact hl
  obtain⟨f0,f1,f2,f3,f4,f5⟩:=hf it (by simp)
  have hi':i<ar.size:=by rw [sz];exact hi
  refine aEa (ar:=ar) (by rw [sz];exact st) ho hdat hi' fun h' st' sb=> ?_
  have I1:Inv X pins σ H { s with heap:=h' }:=I.turned (t':=s.toks) (fun b o hb e=>(sb.2 b hb).trans e) f0 f1 f3 f4 f5
  have exi:xs[i]? =some (xs[i]'(by have:=congrArg List.length har;rw [Array.length_toList,ao] at this;omega)):=bd _
  have key: ∀ (es:Nat×List (Int×Addr×V)),aLw s.heap a es-> ∃ e,es.2[i]? =some e/\ar[i].key= .ref e.2.1:=fun es d=>by
   obtain⟨_,_,o',ar',xs',ho',_,hdat',har',hx'⟩:=d
   have eo:o'=o:=by rw [ho] at ho';cases ho';rfl
   subst eo
   rw [hdat] at hdat'
   cases hdat'
   have hlx:i<xs'.length:=by have:=congrArg List.length har';rw [Array.length_toList,ao] at this;omega
   obtain⟨e,e1,r⟩:=mW hx' (i:=i) (b:=xs'[i]) (bd _)
   refine⟨e,e1, ?_⟩
   have:ar.toList[i]? =some ⟨xs'[i].1, .ref xs'[i].2.1,xs'[i].2.2⟩:=by rw [har',List.getElem?_map,bd hlx];rfl
   rw [Array.getElem?_toList,Array.getElem?_eq_getElem hi'] at this
   rw [Option.some.inj this,r.2.1]
  obtain⟨e0,_,k0⟩:=key (ep,es) ⟨z,l,o,ar,xs,ho,he,hdat,har,hx⟩
  obtain⟨oi,e,c,d⟩:=id st'
  rw [k0]
  refine⟨_,rfl,sS (s:={ s with heap:=h' }) e c d (by decide) ⟨.ref e0.2.1,H,I1,rfl,⟨rfl,fun es' h'=> ?_⟩,by rw [<-sz];exact st',fun b hb=>(hf b hb).1⟩⟩
  obtain⟨e1,q1,q2⟩:=key es' (I.hok a _ h').1
  refine⟨e1,q1, ?_⟩
  rw [Value.ref.inj (k0.symm.trans q2)]
 done:=by
  intro X hP hw hK hc i pins s σ H E I hf st hg
  subst hP hw hK
  obtain⟨hi,es,ha,hl⟩:=hg
  obtain⟨⟨z,l,o,ar,xs,ho,he,hdat,har,hx⟩,_,_⟩:=I.hok a _ ha
  have sz:ar.size=n:=by rw [<-Array.length_toList,har,ao, <-Paired.length hx];exact hl
  obtain⟨f0,f1,f2,f3,f4,f5⟩:=hf it (by simp)
  exact aEb (ar:=ar) (I.ok.hd hc) (by rw [sz];exact st) ho hdat (by rw [sz];exact hi) fun h' eb=>⟨rfl,I.turned (t':=s.toks) (fun b o hb e=>eb b o hb e) f0 f1 f3 f4 f5⟩
 self:=fun _ _ _ _ _ st h=>wpAny_pyIter_keyiter st h
section
variable {X:Cx} {ad:Ad} {pins:List (Addr×Obj)} {s:Shared} {σ:St} {H G:Hp} {ρ:Rho} {tg:Expr}
theorem zA {a:Addr} {es:Nat×List (Int×Addr×V)} {kvs:List (D×D)} (ha:H a=some (dcO a es)) (hd:DR X.K ad G kvs es) (few:es.2.length<=200000):ItH X ad (Itd a es.1 es.2.length) G H (kvs.map (·.1)):=by
 have hl:kvs.length=es.2.length:=Paired.length hd
 refine⟨fun i G1 H1 d st e=> ?_,fun G1 H1 st=>⟨by rw [ao,hl];exact aj _,es.2,st.sh _ _ ha,rfl⟩,by rw [ao,hl];exact Nat.le_trans few (by decide)⟩
 rw [List.getElem?_map] at e
 obtain⟨p,e1,rfl⟩:=zMd e
 obtain⟨q,e2,r⟩:=j4 hd e1
 have hi:i<es.2.length:=(ax.mp e2).1
 refine⟨⟨hi,es.2,st.sh _ _ ha,rfl⟩, ?_⟩
 rintro x H2 ⟨rfl,y⟩
 obtain⟨q',e3,rfl⟩:=y es (st.sh _ _ ha)
 rw [e2] at e3
 cases e3
 exact⟨G1,Step.refl st.gh,r.2.1.mono st.sg⟩
theorem vU {i:Nat} {x:Str} {p:Pos} {a:Addr} {es:Nat×List (Int×Addr×V)} {kvs:List (D×D)} {W:It->Hp->Prop} (hN:X.N[i]? =some x) (hv:Vis X.env.scope x) (hd:(x==("__debug__":Str))=false) (hcd:(x==("__classdict__":Str))=false)
  (I:Inv X pins σ H s) (hG:Same G H) (h1:σ[i]? =some (some (.ref a))) (h3:H a=some (dcO a es)) (h4:DR X.K ad G kvs es) (h5:KOk kvs) (hw: ∀ J G' H',Step G H G' H'->ItH X ad J G' H' (kvs.map (·.1))->W J H'):
  wpAny (model X.prog X.w) X.A (eval (.Name x p) X.env) (fun v s1=>wpAny (model X.prog X.w) X.A (pyIter v) (PIE X pins σ tg W) X.xe s1) X.xe s:=by
 refine L2.thn (aZ hN hv hd hcd pins s σ H (fun v' H'=>v'= .ref a/\H'=H) I ⟨.ref a,h1,rfl,rfl⟩) fun z s1 hz_=> ?_
 obtain⟨v',H',I1,r1,e1,e2⟩:=hz_
 subst e1;subst e2
 cases r1
 obtain⟨hz,hln,_⟩:=aD8 I1 hG h3 h4 h5
 obtain⟨⟨z,l,o,ar,xs,ho,he,hdat,har,hx⟩,_,_⟩:=I1.hok a _ h3
 have sz:ar.size=es.2.length:=by rw [<-Array.length_toList,har,ao, <-Paired.length hx]
 refine aD9 hz ho he hdat ?_
 refine⟨s1.heap.objs.size,[s1.heap.objs.size],_,_,H',rfl,I1.kept (t':=s1.toks) fun b o e=>af _ e,vT a _ es.1 es.2.length,⟨_,ag _ rfl,rfl,by rw [sz];rfl⟩,fun b hb=> ?_,hw _ G H' (Step.refl hG) (zA h3 h4 hln)⟩
 have e:b=s1.heap.objs.size:=by simpa using hb
 subst e
 exact I1.fpOk (aj _) (I1.hok.fresh (aj _))
theorem aEc {i:Nat} {x:Str} {p:Pos} (hN:X.N[i]? =some x) (hv:Vis X.env.scope x) (hd:(x==("__debug__":Str))=false) (hcd:(x==("__classdict__":Str))=false):MI X ad tg (.Name x p) (iO i):=by
 intro pins s σ H W I ⟨G,ρ,E,hG,hS,hx,hr⟩
 have other:iO i ρ=aT i ρ->wpAny (model X.prog X.w) X.A (eval (.Name x p) X.env) (fun v s1=>wpAny (model X.prog X.w) X.A (pyIter v) (PIE X pins σ tg W) X.xe s1) X.xe s:=fun z=>
  p5 (t6 hN hv hd hcd) pins s σ H W I ⟨G,ρ,E,hG,hS,hx,by rw [<-z];exact hr⟩
 cases e:ρ[i]? with
 | none=>exact other (by unfold iO;rw [e])
 | some sl=>
  cases sl with
  | no=>exact other (by unfold iO;rw [e])
  | rk _ _=>exact other (by unfold iO;rw [e])
  | sh d=>exact other (by unfold iO;rw [e])
  | ow d=>exact other (by unfold iO;rw [e])
  | dc kvs=>
   unfold iO at hr
   rw [e] at hr
   obtain⟨ds,e1,hw⟩:=hr
   cases e1
   obtain⟨a,es,h1,h2,h3,h4,h5⟩:=hS.dc e
   exact vU hN hv hd hcd I hG h1 h3 h4 h5 hw
  | sd kvs=>
   unfold iO at hr
   rw [e] at hr
   obtain⟨ds,e1,hw⟩:=hr
   cases e1
   obtain⟨a,es,h1,h2,h3,h4,h5⟩:=hS.sd e
   exact vU hN hv hd hcd I hG h1 h3 h4 h5 hw
end
end SK
namespace L2
open PySem PySem.Spec PyProof.Rows
section
variable {κ:Type} [DecidableEq κ]
noncomputable def lF (kvs:List (κ×V)) (k:κ):Option V:=(kvs.find? fun kv=>decide (kv.1=k)).map (·.2)
noncomputable def putK (kvs:List (κ×V)) (k:κ) (v:V):List (κ×V):=
 if(kvs.any fun kv=>decide (kv.1=k))=true then kvs.map (fun kv=>if kv.1=k then(kv.1,v) else kv) else kvs++[(k,v)]
noncomputable def dropK (kvs:List (κ×V)) (k:κ):List (κ×V):=kvs.filter fun kv=>decide (kv.1≠k)
theorem zB {k:κ}:lF ([]:List (κ×V)) k=none:=rfl
theorem hZ {p:κ×V} {r:List (κ×V)} {k:κ} (e:p.1=k):lF (p::r) k=some p.2:=by simp [lF,List.find?_cons,e]
theorem iA {p:κ×V} {r:List (κ×V)} {k:κ} (e: ¬ p.1=k):lF (p::r) k=lF r k:=by simp [lF,List.find?_cons,e]
theorem qM (k:κ): ∀ kvs:List (κ×V),(kvs.any fun kv=>decide (kv.1=k))=(lF kvs k).isSome
 | []=>rfl
 | p::r=>by
  rw [List.any_cons]
  by_cases e:p.1=k
  ·simp only [hZ e,decide_eq_true e,Bool.true_or,Option.isSome_some]
  ·rw [iA e,decide_eq_false e,Bool.false_or];exact qM k r
theorem iZ (kvs:List (κ×V)) (k:κ) (v:V):(putK kvs k v).length<=kvs.length+1:=by
 unfold putK
 split
 ·rw [ao];omega
 ·rw [bo,bq,List.length_nil];omega
theorem kH.isSome_eq {o:Option V} {u:Option Value} (r:kH o u):o.isSome=u.isSome:=by
 cases o with
 | none=>cases u with
  | none=>rfl
  | some _=>exact(show False from r).elim
 | some _=>cases u with
  | none=>exact(show False from r).elim
  | some _=>rfl
theorem kH.getD {o:Option V} {u:Option Value} {d:V} {d':Value} (r:kH o u) (rd:aP d d'):aP (o.getD d) (u.getD d'):=by
 cases o with
 | none=>cases u with
  | none=>exact rd
  | some _=>exact(show False from r).elim
 | some _=>cases u with
  | none=>exact(show False from r).elim
  | some _=>exact r
theorem KV.val {kvs:List (κ×V)} {vs:List (κ×Value)} (r:KV kvs vs) (k:κ):kH (lF kvs k) (valueAt vs k):=by
 unfold KV at r
 induction r with
 | nil=>exact True.intro
 | @cons p q ps qs h t ih=>
  obtain⟨h1,h2⟩:=h
  by_cases e:p.1=k
  ·have e':q.1=k:=h1.symm.trans e
   have b:valueAt (q::qs) k=some q.2:=by simp [valueAt,List.find?_cons,e']
   rw [hZ e,b];exact h2
  ·have e': ¬ q.1=k:=fun z=>e (h1.trans z)
   have b:valueAt (q::qs) k=valueAt qs k:=by simp [valueAt,List.find?_cons,e']
   rw [iA e,b];exact ih
theorem KV.any {kvs:List (κ×V)} {vs:List (κ×Value)} (r:KV kvs vs) (k:κ):(kvs.any fun kv=>decide (kv.1=k))=vs.any fun kv=>decide (kv.1=k):=by
 unfold KV at r
 induction r with
 | nil=>rfl
 | cons h t ih=>rw [List.any_cons,List.any_cons,ih,h.1]
theorem KV.repl {kvs:List (κ×V)} {vs:List (κ×Value)} (r:KV kvs vs) (k:κ) {y:V} {u:Value} (ry:aP y u):
  KV (kvs.map fun kv=>if kv.1=k then(kv.1,y) else kv) (vs.map fun kv=>if kv.1=k then(kv.1,u) else kv):=by
 unfold KV at r ⊢
 induction r with
 | nil=>exact .nil
 | @cons p q ps qs h t ih=>
  rw [List.map_cons,List.map_cons]
  refine .cons ?_ ih
  obtain⟨h1,h2⟩:=h
  by_cases e:p.1=k
  ·rw [if_pos e,if_pos (h1.symm.trans e)];exact⟨h1,ry⟩
  ·rw [if_neg e,if_neg (fun z=>e (h1.trans z))];exact⟨h1,h2⟩
theorem KV.put {kvs:List (κ×V)} {vs:List (κ×Value)} (r:KV kvs vs) (k:κ) {y:V} {u:Value} (ry:aP y u):KV (putK kvs k y) (stored vs k u):=by
 unfold putK stored
 rw [r.any k]
 by_cases e:(vs.any fun kv=>decide (kv.1=k))=true
 ·rw [if_pos e,if_pos e];exact r.repl k ry
 ·rw [if_neg e,if_neg e];exact Paired.snoc r ⟨rfl,ry⟩
theorem KV.drop {kvs:List (κ×V)} {vs:List (κ×Value)} (r:KV kvs vs) (k:κ):KV (dropK kvs k) (without vs k):=by
 unfold KV at r ⊢
 unfold dropK without
 induction r with
 | nil=>exact .nil
 | @cons p q ps qs h t ih=>
  obtain⟨h1,h2⟩:=h
  rw [List.filter_cons,List.filter_cons]
  by_cases e:p.1=k
  ·have a: ¬ decide (p.1≠k)=true:=by simp [e]
   have b: ¬ decide (q.1≠k)=true:=by simp [h1.symm.trans e]
   rw [if_neg a,if_neg b];exact ih
  ·have e': ¬ q.1=k:=fun z=>e (h1.trans z)
   have a:decide (p.1≠k)=true:=by simp [e]
   have b:decide (q.1≠k)=true:=by simp [e']
   rw [if_pos a,if_pos b];exact .cons ⟨h1,h2⟩ ih
theorem KV.keys {kvs:List (κ×V)} {vs:List (κ×Value)} (r:KV kvs vs):kvs.map (·.1)=vs.map (·.1):=by
 unfold KV at r
 induction r with
 | nil=>rfl
 | cons h t ih=>rw [List.map_cons,List.map_cons,ih,h.1]
theorem KV.length {kvs:List (κ×V)} {vs:List (κ×Value)} (r:KV kvs vs):kvs.length=vs.length:=Paired.length r
theorem zC (kvs:List (κ×V)) (k:κ):(dropK kvs k).length<=kvs.length:=List.length_filter_le _ _
end
theorem oP {P:Program} {w:World} {k:Key} {u:Value} (r:aP (kV k) u):(bK P w).is k u=true:=by
 cases k with
 | inl i=>obtain⟨t,e⟩:=(show ∃ t,u=Value.int i t from r);subst e;exact nL P w i t
 | inr x=>obtain⟨t,e⟩:=(show ∃ t,u=Value.str x t from r);subst e;exact nM P w x t
theorem mX {P:Program} {w:World}: ∀ {ks:List Key} {us:List Value},aY (ks.map kV) us->ItemsAre (bK P w) ks us
 | [],_,r=>by rw [List.map_nil] at r;cases r;exact .nil
 | k::ks,_,r=>by
  rw [List.map_cons] at r
  cases r with
  | cons h t=>exact .cons (oP h) (mX t)
noncomputable abbrev KT (H:Hp):List (List Key×V)->List (List Key×Addr×Value)->Prop:=Paired fun p q=>p.1=q.1/\H q.2.1=some (.tup (p.1.map kV))/\aP p.2 q.2.2
theorem KT.val {H:Hp} {kvs:List (List Key×V)} {xs:List (List Key×Addr×Value)} (r:KT H kvs xs) (k:List Key):kH (lF kvs k) ((atKey xs k).map (·.2)):=by
 induction r with
 | nil=>exact True.intro
 | @cons p q ps qs h t ih=>
  obtain⟨h1,_,h2⟩:=h
  by_cases e:p.1=k
  ·have e':q.1=k:=h1.symm.trans e
   have b:atKey (q::qs) k=some q.2:=by simp [atKey,List.find?_cons,e']
   rw [hZ e,b];exact h2
  ·have e': ¬ q.1=k:=fun z=>e (h1.trans z)
   have b:atKey (q::qs) k=atKey qs k:=by simp [atKey,List.find?_cons,e']
   rw [iA e,b];exact ih
theorem KT.repl {H:Hp} {kvs:List (List Key×V)} {xs:List (List Key×Addr×Value)} (r:KT H kvs xs) (k:List Key) {y:V} {u:Value} (ry:aP y u):
  KT H (kvs.map fun kv=>if kv.1=k then(kv.1,y) else kv) (xs.map (putAt k u)):=by
 induction r with
 | nil=>exact .nil
 | @cons p q ps qs h t ih=>
  rw [List.map_cons,List.map_cons]
  refine .cons ?_ ih
  obtain⟨h1,h2,h3⟩:=h
  unfold putAt
  by_cases e:p.1=k
  ·rw [if_pos e,if_pos (h1.symm.trans e)];exact⟨h1,h2,ry⟩
  ·rw [if_neg e,if_neg (fun z=>e (h1.trans z))];exact⟨h1,h2,h3⟩
theorem KT.put {H:Hp} {kvs:List (List Key×V)} {xs:List (List Key×Addr×Value)} (r:KT H kvs xs) (k:List Key) {b:Addr} {y:V} {u:Value} (hb:H b=some (.tup (k.map kV))) (ry:aP y u):
  KT H (putK kvs k y) (storedH xs k b u):=by
 have e:(kvs.any fun kv=>decide (kv.1=k))=(atKey xs k).isSome:=by
  rw [qM,(r.val k).isSome_eq,Option.isSome_map]
 unfold putK storedH
 rw [e]
 by_cases q:(atKey xs k).isSome=true
 ·rw [if_pos q,if_pos q];exact r.repl k ry
 ·rw [if_neg q,if_neg q];exact Paired.snoc r ⟨rfl,hb,ry⟩
theorem KT.keeps {H H':Hp} {kvs:List (List Key×V)} {xs:List (List Key×Addr×Value)} (r:KT H kvs xs) (ht: ∀ b ys,H b=some (.tup ys)->H' b=some (.tup ys)):KT H' kvs xs:=
 Paired.mapP r fun _ _ z=>⟨z.1,ht _ _ z.2.1,z.2.2⟩
section
variable {P:Program} {w:World} {H:Hp} {h:Heap} {a:Addr}
theorem aJb {u:HO} (ok:HOk P w H h) (e:Rd H a u):ObjOk P w H h a u:=e.ok ok
theorem oQ {kvs:List (Key×V)} (ok:HOk P w H h) (e:Rd H a (.dK kvs)):kvs.length<=sizeLine/\(a==sysModules)=false/\ ∃ vs,KV kvs vs/\h.DictOf (bK P w) a vs:=
 show ObjOk P w H h a (.dK kvs) from aJb ok e
theorem aEd {kvs:List (Key×V)} (ok:HOk P w H h) (e:H a=some (.dK kvs)):kvs.length<=sizeLine/\(a==sysModules)=false/\ ∃ vs,KV kvs vs/\h.DictOf (bK P w) a vs:=oQ ok (.inl e)
theorem dP {ks:List Key} (ok:HOk P w H h) (e:H a=some (.tup (ks.map kV))):(tupleKind (bK P w)).is h ks a:=by
 obtain⟨_,its,r,⟨o,h1,h2,n,h3⟩,_⟩:=(show ObjOk P w H h a (.tup (ks.map kV)) from ok a _ e)
 exact⟨o,its.toArray,n,h1,h2,h3,by simpa using mX r⟩
theorem oR {kvs:List (List Key×V)} (ok:HOk P w H h) (e:Rd H a (.dT kvs)):kvs.length<=sizeLine/\(a==sysModules)=false/\
  ∃ xs,KT H kvs xs/\h.DictOfH (tupleKind (bK P w)) a xs:=by
 obtain⟨z,y,xs,r,o,es,ep,h1,h2,h3,h4,h5⟩:=(show ObjOk P w H h a (.dT kvs) from aJb ok e)
 refine⟨z,y,xs,r,o,es,ep,h1,h2,h3,h4,fun x hx=> ?_,h5⟩
 have all: ∀ {l:List (List Key×V)} {m:List (List Key×Addr×Value)},KT H l m-> ∀ x∈m,(tupleKind (bK P w)).is h x.1 x.2.1:=by
  intro l m q
  induction q with
  | nil=>intro x hx;exact nomatch hx
  | @cons p q ps qs hq t ih=>
   intro x hx
   rcases au.mp hx with e | hx
   ·subst e
    exact dP ok (by rw [<-hq.1];exact hq.2.1)
   ·exact ih x hx
 exact all r x hx
theorem aL7 {kvs:List (List Key×V)} (ok:HOk P w H h) (e:H a=some (.dT kvs)):kvs.length<=sizeLine/\(a==sysModules)=false/\
  ∃ xs,KT H kvs xs/\h.DictOfH (tupleKind (bK P w)) a xs:=oR ok (.inl e)
end
def oS (H:Hp) (a:Addr) (y:V) (r:Option V):Prop:=
 (∃ kvs k,Rd H a (.dK kvs)/\y=kV k/\r=lF kvs k)\/ ∃ kvs k b,Rd H a (.dT kvs)/\y= .ref b/\H b=some (.tup (k.map kV))/\r=lF kvs k
def aJc (H:Hp) (a:Addr) (y v:V) (H':Hp):Prop:=
 (∃ kvs k,H a=some (.dK kvs)/\y=kV k/\kvs.length<sizeLine/\H'=upd H a (.dK (putK kvs k v)))\/
 ∃ kvs k b,H a=some (.dT kvs)/\y= .ref b/\H b=some (.tup (k.map kV))/\kvs.length<sizeLine/\H'=upd H a (.dT (putK kvs k v))
theorem oS.k {H:Hp} {a:Addr} {kvs:List (Key×V)} {k:Key} (e:H a=some (.dK kvs)):oS H a (kV k) (lF kvs k):= .inl ⟨kvs,k, .inl e,rfl,rfl⟩
theorem aJc.k {H:Hp} {a:Addr} {kvs:List (Key×V)} {k:Key} {v:V} (e:H a=some (.dK kvs)) (hl:kvs.length<sizeLine):aJc H a (kV k) v (upd H a (.dK (putK kvs k v))):= .inl ⟨kvs,k,e,rfl,hl,rfl⟩
section
variable {X:Cx} {pins:List (Addr×Obj)} {σ:St} {H:Hp} {s:Shared} {a:Addr} {y v:V} {u r:Value} {o:Option V} {A:Around} {E:Value->Shared->Prop}
theorem Inv.bigK (I:Inv X pins σ H s):sysModules<s.heap.objs.size:=by
 have h:mainGlobals<s.heap.objs.size:=(I.mod.glob.keeps I.bk).lt
 exact Nat.lt_trans (by decide) h
theorem vV {Q:Value->Shared->Prop} (hu:A.units+1<cLine) (I:Inv X pins σ H s) (g:oS H a y (some v)) (ry:aP y u) (h: ∀ w' s',Inv X pins σ H s'->aP v w'->Q w' s'):
  wpAny (model X.prog X.w) A (getItem (.ref a) u) Q E s:=by
 rcases g with ⟨kvs,k,e,ey,l⟩ | ⟨kvs,k,b,e,ey,eb,l⟩
 ·subst ey
  obtain⟨z,hd,vs,rel,dd⟩:=oQ I.hok e
  obtain⟨w',hw,rw'⟩:=kH.some_of (v:=v) (o:=valueAt vs k) (by rw [l];exact rel.val k)
  exact wpAny_getItem_of (oP ry) dd.mapOf hw (h w' _ (I.tok _) rw')
 ·subst ey
  cases (show u=Value.ref b from ry)
  obtain⟨z,hd,xs,rel,dd⟩:=oR I.hok e
  obtain⟨w',hw,rw'⟩:=kH.some_of (v:=v) (o:=(atKey xs k).map (·.2)) (by rw [l];exact rel.val k)
  obtain⟨p,hp,hp2⟩:=zMd hw
  refine wpAny_getItem_heap (tupleKind_room_in1 hu) (dP I.hok eb) dd hp ?_
  rw [hp2]
  exact h w' _ (I.tok _) rw'
theorem aO6 {Q:Value->Shared->Prop} (hu:A.units+1<cLine) (I:Inv X pins σ H s) (g:oS H a y o) (ry:aP y u) (h: ∀ s',Inv X pins σ H s'->Q (.bool o.isSome) s'):
  wpAny (model X.prog X.w) A (compareOp .In u (.ref a)) Q E s:=by
 rcases g with ⟨kvs,k,e,ey,l⟩ | ⟨kvs,k,b,e,ey,eb,l⟩
 ·subst ey
  obtain⟨z,hd,vs,rel,dd⟩:=oQ I.hok e
  refine wpAny_in_of (oP ry) hd dd.mapOf ?_
  rw [<-(rel.val k).isSome_eq, <-l]
  exact h _ (I.tok _)
 ·subst ey
  cases (show u=Value.ref b from ry)
  obtain⟨z,hd,xs,rel,dd⟩:=oR I.hok e
  refine wpAny_in_heap (tupleKind_room_in1 hu) (dP I.hok eb) hd dd ?_
  have q:=(rel.val k).isSome_eq
  rw [Option.isSome_map] at q
  rw [<-q, <-l]
  exact h _ (I.tok _)
theorem aEe {Q:Value->Shared->Prop} (hu:A.units+1<cLine) (I:Inv X pins σ H s) (g:oS H a y o) (ry:aP y u) (h: ∀ s',Inv X pins σ H s'->Q (.bool (!o.isSome)) s'):
  wpAny (model X.prog X.w) A (compareOp .NotIn u (.ref a)) Q E s:=by
 rcases g with ⟨kvs,k,e,ey,l⟩ | ⟨kvs,k,b,e,ey,eb,l⟩
 ·subst ey
  obtain⟨z,hd,vs,rel,dd⟩:=oQ I.hok e
  refine wpAny_notIn_of (oP ry) hd dd.mapOf ?_
  rw [<-(rel.val k).isSome_eq, <-l]
  exact h _ (I.tok _)
 ·subst ey
  cases (show u=Value.ref b from ry)
  obtain⟨z,hd,xs,rel,dd⟩:=oR I.hok e
  refine wpAny_notIn_heap (tupleKind_room_in1 hu) (dP I.hok eb) hd dd ?_
  have q:=(rel.val k).isSome_eq
  rw [Option.isSome_map] at q
  rw [<-q, <-l]
  exact h _ (I.tok _)
theorem oT {h':Heap} {t':Nat} {ob:HO} (I:Inv X pins σ H s) (mu:Mut (H a)) (hs:Heap.SameBut a s.heap h') (he: ∃ q,h'.get? a=some q) (new:ObjOk X.prog X.w (upd H a ob) h' a ob):
  Inv X pins σ (upd H a ob) { s with heap:=h',toks:=t' }:=
 I.write (x:=a) (e:=a) mu (.inl rfl) (fun b q hb z=>(hs.2 b hb).trans z) he new
theorem aBi {P:Program} {w:World} {H':Hp} {h':Heap} {kvs:List (Key×V)} {vs:List (Key×Value)} (z:kvs.length<=sizeLine) (hd:(a==sysModules)=false) (rel:KV kvs vs) (dd:h'.DictOf (bK P w) a vs):
  ObjOk P w H' h' a (.dK kvs):=⟨z,hd,vs,rel,dd⟩
theorem vW {H':Hp} {Q:Unit->Shared->Prop} (hu:A.units+1<cLine) (I:Inv X pins σ H s) (g:aJc H a y v H') (ry:aP y u) (rv:aP v r) (h: ∀ s',Inv X pins σ H' s'->Q () s'):
  wpAny (model X.prog X.w) A (setItem (.ref a) u r) Q E s:=by
 rcases g with ⟨kvs,k,e,ey,l,eH⟩ | ⟨kvs,k,b,e,ey,eb,l,eH⟩
 ·subst ey eH
  obtain⟨z,hd,vs,rel,dd⟩:=aEd I.hok e
  have hz:vs.length<=sizeLine:=by rw [<-rel.length];exact z
  have hl:(putK kvs k v).length<=sizeLine:=by have:=iZ kvs k v;omega
  refine wpAny_setItem_pairs (hsz:=hz) (oP ry) dd fun h' dd' hs=>h _ ?_
  have he: ∃ q,h'.get? a=some q:=let ⟨q,_,_,hq,_⟩:=dd';⟨q,hq⟩
  exact oT I (by rw [e];exact True.intro) hs he (aBi hl hd (rel.put k rv) dd')
 ·subst ey eH
  cases (show u=Value.ref b from ry)
  obtain⟨z,hd,xs,rel,dd⟩:=aL7 I.hok e
  have hz:xs.length<=sizeLine:=by rw [<-Paired.length rel];exact z
  have hl:(putK kvs k v).length<=sizeLine:=by have:=iZ kvs k v;omega
  refine wpAny_setItem_heap (hsz:=hz) (tupleKind_room_in1 hu) (dP I.hok eb) dd fun h' dd' hs=>h _ ?_
  obtain⟨q,es,ep,hq,h2,h3,h4,_,h5⟩:=dd'
  refine oT I (by rw [e];exact True.intro) hs ⟨q,hq⟩ ⟨hl,hd,_,(rel.put k eb rv).keeps fun c ys ec=> ?_,q,es,ep,hq,h2,h3,h4,h5⟩
  rw [aA (aK1 ec e (fun z=>nomatch z))]
  exact ec
end
section
variable {X:Cx} {pins:List (Addr×Obj)} {σ:St} {H:Hp} {s:Shared} {a:Addr} {kvs:List (Key×V)} {k:Key} {u:Value} {A:Around} {E:Value->Shared->Prop}
theorem aL8 {v:V} {more:List Value} {Q:Value->Shared->Prop} (I:Inv X pins σ H s) (e:H a=some (.dK kvs)) (ry:aP (kV k) u) (l:lF kvs k=some v) (hm:more=[]\/ ∃ x,more=[x])
  (h: ∀ w' s',Inv X pins σ (upd H a (.dK (dropK kvs k))) s'->aP v w'->Q w' s'):wpAny (model X.prog X.w) A (call (.builtin "dict.pop") (.ref a::u::more)) Q E s:=by
 obtain⟨z,hd,vs,rel,dd⟩:=aEd I.hok e
 obtain⟨w',hw,rw'⟩:=kH.some_of (v:=v) (o:=valueAt vs k) (by rw [<-l];exact rel.val k)
 have hp:(keyPart u).isSome=true:=by
  cases k with
  | inl i=>obtain⟨t,q⟩:=(show ∃ t,u=Value.int i t from ry);subst q;rfl
  | inr x=>obtain⟨t,q⟩:=(show ∃ t,u=Value.str x t from ry);subst q;rfl
 have ha:argsOk "dict.pop" ⟨.ref a::u::more,[]⟩:=by
  rcases hm with q | ⟨x,q⟩
  ·subst q;exact PySem.F.args_dict_pop_2 _ _
  ·subst q;exact PySem.F.args_dict_pop_3 _ _ _
 refine call_meetsIn PySem.F.slot_dict_pop dd.typeIs PySem.F.entry_dict_pop ha (meets_dict_pop_there (bK X.prog X.w) a (oP ry) more hm hp)
  ⟨vs,w',dd,by rw [<-rel.length];exact z,hw,fun h' dd' hs=>h w' _ ?_ rw'⟩
 have he: ∃ q,h'.get? a=some q:=let ⟨q,_,_,hq,_⟩:=dd';⟨q,hq⟩
 exact oT I (by rw [e];exact True.intro) hs he (aBi (Nat.le_trans (zC kvs k) z) hd (rel.drop k) dd')
end
def aL9 (i:Expr):Prop:= ∀ ov iv,subscripted i false ov iv=operate [ov,iv] (getItem ov iv)
theorem aEf {prog:Program} {w:World} {A:Around} {E:Value->Shared->Prop} {s:Shared} {env:Env} {value slice:Expr} {pos:Pos} {T id:String} {Q:Value->Shared->Prop}
  (hl:typeLookup (.type T) "__getitem__"=pure (some (.builtin id))) (hs:aL9 slice)
  (h:wpAny (model prog w) A (eval value env) (fun o s₁=>wpAny (model prog w) A (eval slice env) (fun i s₂=>s₂.TypeIs o T/\wpAny (model prog w) A (getItem o i) Q E s₂) E s₁) E s):
  wpAny (model prog w) A (eval (.Subscript value slice pos) env) Q E s:=by
 refine Subscript_ (wpAny_mono h (fun o s₁ h₁=>wpAny_mono h₁ (fun i s₂ h₂=> ?_) fun _ _ x=>x) fun _ _ x=>x)
 obtain⟨hT,h₂⟩:=h₂
 unfold subscriptTail
 refine aa ?_
 rw [getitemInPython_of_ne hT.not_modules]
 refine aa (wpAny_specialOf hT hl ?_)
 have fin:wpAny (model prog w) A (subscripted slice false o i) (fun r s₃=>wpAny (model prog w) A (letTemporaryGo value o r >>= fun _=>pure r) Q E s₃) E s₂:=by
  rw [hs o i]
  exact wpAny_operating (wpAny_mono h₂ (fun r s₃ h₃=>aa (wpAny_letTemporaryGo (ae h₃))) fun _ _ x=>x)
 first
  | exact ae (aa fin)
  | exact aa (ae (aa fin))
  | exact aa fin
theorem oU {X:Cx} {pins:List (Addr×Obj)} {σ:St} {H:Hp} {s:Shared} {a:Addr} {y:V} {o:Option V} (I:Inv X pins σ H s) (g:oS H a y o):s.TypeIs (.ref a) "dict":=by
 rcases g with ⟨kvs,k,e,_,_⟩ | ⟨kvs,k,b,e,_,_,_⟩
 ·obtain⟨_,_,vs,_,dd⟩:=oQ I.hok e
  exact dd.typeIs
 ·obtain⟨_,_,xs,_,dd⟩:=oR I.hok e
  exact dd.typeIs
noncomputable def aMa (td ty:TE):TE:=fun σ H Q=>td σ H fun x H1=>ty σ H1 fun y H2=> ∃ a v,x= .ref a/\oS H2 a y (some v)/\Q v H2
noncomputable def aO7 (ty td:TE):TE:=fun σ H Q=>ty σ H fun y H1=>td σ H1 fun x H2=> ∃ a o,x= .ref a/\oS H2 a y o/\Q (.bl o.isSome) H2
noncomputable def aEg (ty td:TE):TE:=fun σ H Q=>ty σ H fun y H1=>td σ H1 fun x H2=> ∃ a o,x= .ref a/\oS H2 a y o/\Q (.bl (!o.isSome)) H2
noncomputable def aMb (td ty tv:TE):TS:=fun D σ H=>tv σ H fun v H1=>td σ H1 fun x H2=>ty σ H2 fun y H3=> ∃ a H4,x= .ref a/\aJc H3 a y v H4/\D.nx σ H4
section
variable {X:Cx} {o i e value:Expr} {pos pos' tpos:Pos} {td ty tv:TE}
theorem aEh (hu:X.A.units+1<cLine) (ho:PE X o td) (hi:PE X i ty) (hs:aL9 i):PE X (.Subscript o i pos) (aMa td ty):=by
 intro pins s σ H Q I h
 refine aEf PySem.F.slot_dict_getitem.lookup hs (thn (ho pins s σ H _ I h) fun u s1 ⟨x,H1,I1,rx,q1⟩=>thn (hi pins s1 σ H1 _ I1 q1) fun iv s2 ⟨y,H2,I2,ry,a,v,ex,g,q2⟩=> ?_)
 subst ex
 obtain rfl:u=Value.ref a:=rx
 exact⟨oU I2 g,vV hu I2 g ry fun w' s3 I3 rw'=>⟨v,H2,I3,rw',q2⟩⟩
theorem aJd (hu:X.A.units+1<cLine) (hi:PE X i ty) (ho:PE X o td):PC X .In i o (aO7 ty td):=by
 intro pins s σ H Q I h
 refine thn (hi pins s σ H _ I h) fun iv s1 ⟨y,H1,I1,ry,q1⟩=>thn (ho pins s1 σ H1 _ I1 q1) fun u s2 ⟨x,H2,I2,rx,a,ov,ex,g,q2⟩=> ?_
 subst ex
 obtain rfl:u=Value.ref a:=rx
 exact aO6 hu I2 g ry fun s3 I3=>⟨.bl ov.isSome,H2,I3,rfl,q2⟩
theorem vX (hu:X.A.units+1<cLine) (hi:PE X i ty) (ho:PE X o td):PC X .NotIn i o (aEg ty td):=by
 intro pins s σ H Q I h
 refine thn (hi pins s σ H _ I h) fun iv s1 ⟨y,H1,I1,ry,q1⟩=>thn (ho pins s1 σ H1 _ I1 q1) fun u s2 ⟨x,H2,I2,rx,a,ov,ex,g,q2⟩=> ?_
 subst ex
 obtain rfl:u=Value.ref a:=rx
 exact aEe hu I2 g ry fun s3 I3=>⟨.bl (!ov.isSome),H2,I3,rfl,q2⟩
theorem aEi (hu:X.A.units+1<cLine) (ho:PE X o td) (hi:PE X i ty) (hv:PE X value tv) (hs:swapsWith value (some (.Subscript o i pos')) pos.line X.env=pure false):
  PS X (.Assign [.Subscript o i pos'] value pos) (aMb td ty tv):=by
 intro pins s σ H D I h
 refine wpAny_Assign_Subscript (thn (hv pins s σ H _ I h) fun r s1 ⟨v,H1,I1,rv,q1⟩=>thn (ho pins s1 σ H1 _ I1 q1) fun u s2 ⟨x,H2,I2,rx,q2⟩=>thn (hi pins s2 σ H2 _ I2 q2) fun iv s3 ⟨y,H3,I3,ry,a,H4,ex,g,q3⟩=> ?_) hs
 subst ex
 obtain rfl:u=Value.ref a:=rx
 exact vW hu I3 g ry rv fun s4 I4=>⟨σ,H4,I4,q3⟩
end
theorem zD {P:Program} {w:World} {H:Hp} (h:Heap) (hb:sysModules<h.objs.size):ObjOk P w H (h.push { cls:= .type "dict",data:= .dict #[] }) h.objs.size (.dK []):=
 ⟨bu _,beq_eq_false_iff_ne.mpr (Ne.symm (bh hb)),[], .nil,Heap.DictOf.new h⟩
noncomputable def aJe:TE:=fun _ H Q=> ∀ p,H p=none->Q (.ref p) (upd H p (.dK []))
section
variable {X:Cx} {pos:Pos}
theorem zE:PE X (.Dict [] [] pos) aJe:=fun pins s σ H Q I h=>
 wpAny_Dict_empty ⟨.ref s.heap.objs.size,_,I.laid (a:=s.heap.objs.size) (o:= .dK []) (t':=s.toks) (fun _ _ q=>af _ q) (aj _) (zD s.heap I.bigK),rfl,h _ (I.hok.fresh (aj _))⟩
end
structure M1 (X:Cx) (o:Expr) (m:Str) (apos:Pos) (e:Expr) (cpos:Pos):Prop where
 base:attributeBase o m X.env (eval o X.env)=eval o X.env
 few:((backTo cpos (starEach [e] X.env)).all (fun x=> !x.1)&&(backToKw cpos (keywordEach [] X.env)).all (fun x=>x.1.isSome)
  &&decide (([e]:List Expr).length+([]:List Keyword).length+(if([]:List Keyword).isEmpty then 0 else 1)<30))=true
 line:(apos.endLine==cpos.line)=true
 trees:backTo cpos (starEach [e] X.env)=[(false,eval e X.env)]
def IsD (H:Hp) (a:Addr):Prop:=(∃ kvs,Rd H a (.dK kvs))\/ ∃ kvs,Rd H a (.dT kvs)
theorem aBj {X:Cx} {pins:List (Addr×Obj)} {σ:St} {H:Hp} {s:Shared} {a:Addr} (I:Inv X pins σ H s) (d:IsD H a):
  s.TypeIs (.ref a) "dict"/\(∀ b,Value.ref a= .ref b-> ∃ ob,s.heap.get? b=some ob/\ob.dict=none)/\(a==sysModules)=false:=by
 rcases d with ⟨kvs,e⟩ | ⟨kvs,e⟩
 ·obtain⟨_,hd,vs,_,dd⟩:=oQ I.hok e
  refine⟨dd.typeIs,fun b q=> ?_,hd⟩
  cases q
  obtain⟨ob,_,_,h1,h2,_⟩:=dd
  exact⟨ob,h1,h2.2.1⟩
 ·obtain⟨_,hd,xs,_,dd⟩:=oR I.hok e
  refine⟨dd.typeIs,fun b q=> ?_,hd⟩
  cases q
  obtain⟨ob,_,_,h1,h2,_⟩:=dd
  exact⟨ob,h1,h2.2.1⟩
section
variable {X:Cx} {pins:List (Addr×Obj)} {σ:St} {H:Hp} {s:Shared} {a:Addr} {y d:V} {u r:Value} {o:Option V} {A:Around} {E:Value->Shared->Prop}
theorem aJf {Q:Value->Shared->Prop} (hu:A.units+1<cLine) (I:Inv X pins σ H s) (g:oS H a y o) (ry:aP y u) (h: ∀ w' s',Inv X pins σ H s'->aP (o.getD .non) w'->Q w' s'):
  wpAny (model X.prog X.w) A (call (.builtin "dict.get") [.ref a,u]) Q E s:=by
 rcases g with ⟨kvs,k,e,ey,l⟩ | ⟨kvs,k,b,e,ey,eb,l⟩
 ·subst ey
  obtain⟨z,hd,vs,rel,dd⟩:=oQ I.hok e
  refine call_meetsIn PySem.F.slot_dict_get dd.typeIs PySem.F.entry_dict_get (PySem.F.args_dict_get_2 _ _) (meets_dict_get (bK X.prog X.w) a (oP ry) hd) ⟨_,dd.mapOf,h _ _ (I.tok _) ?_⟩
  rw [l]
  exact(rel.val k).getD rfl
 ·subst ey
  cases (show u=Value.ref b from ry)
  obtain⟨z,hd,xs,rel,dd⟩:=oR I.hok e
  refine call_meetsIn PySem.F.slot_dict_get dd.typeIs PySem.F.entry_dict_get (PySem.F.args_dict_get_2 _ _) (meetsH_dict_get (tupleKind (bK X.prog X.w)) a b hd) ⟨tupleKind_room_in1 hu,k,xs,dP I.hok eb,dd,h _ _ (I.tok _) ?_⟩
  rw [l]
  exact(rel.val k).getD rfl
end
noncomputable def aJg (td ty:TE):TE:=fun σ H Q=>td σ H fun x H1=> ∃ a,x= .ref a/\IsD H1 a/\ty σ H1 fun y H2=> ∃ o,oS H2 a y o/\Q (o.getD .non) H2
noncomputable def aBk (td ty:TE):TE:=fun σ H Q=>td σ H fun x H1=> ∃ a,x= .ref a/\IsD H1 a/\ty σ H1 fun y H2=> ∃ kvs k v,H2 a=some (.dK kvs)/\y=kV k/\lF kvs k=some v/\Q v (upd H2 a (.dK (dropK kvs k)))
section
variable {X:Cx} {o e f:Expr} {apos cpos:Pos} {td ty tx:TE}
theorem zF (hu:X.A.units+1<cLine) (ho:PE X o td) (he:PE X e ty) (m:M1 X o "get" apos e cpos):PE X (.Call (.Attribute o "get" apos) [e] [] cpos) (aJg td ty):=by
 intro pins s σ H Q I h
 refine wpAny_Call_method m.base m.few m.line PySem.F.plainAttrs_dict PySem.F.slot_dict_get PySem.F.type_dict_get (thn (ho pins s σ H _ I h) fun u s1 ⟨x,H1,I1,rx,a,ex,d,q1⟩=> ?_)
 subst ex
 obtain rfl:u=Value.ref a:=rx
 obtain⟨t1,t2,_⟩:=aBj I1 d
 refine⟨t1,t2, ?_⟩
 rw [m.trees]
 refine Calls.callWith_builtin rfl (Calls.evalArgs_plain (Calls.spliced_cons (thn (he pins s1 σ H1 _ I1 q1) fun iv s2 ⟨y,H2,I2,ry,ov,g,q2⟩=>Calls.spliced_nil ?_)))
 exact aJf hu I2 g ry fun w' s3 I3 rw'=>⟨_,H2,I3,rw',q2⟩
theorem zG (ho:PE X o td) (he:PE X e ty) (m:M1 X o "pop" apos e cpos):PE X (.Call (.Attribute o "pop" apos) [e] [] cpos) (aBk td ty):=by
 intro pins s σ H Q I h
 refine wpAny_Call_method m.base m.few m.line PySem.F.plainAttrs_dict PySem.F.slot_dict_pop PySem.F.type_dict_pop (thn (ho pins s σ H _ I h) fun u s1 ⟨x,H1,I1,rx,a,ex,d,q1⟩=> ?_)
 subst ex
 obtain rfl:u=Value.ref a:=rx
 obtain⟨t1,t2,_⟩:=aBj I1 d
 refine⟨t1,t2, ?_⟩
 rw [m.trees]
 refine Calls.callWith_builtin rfl (Calls.evalArgs_plain (Calls.spliced_cons (thn (he pins s1 σ H1 _ I1 q1) fun iv s2 ⟨y,H2,I2,ry,kvs,k,v,ea,ey,l,q2⟩=>Calls.spliced_nil ?_)))
 subst ey
 exact aL8 I2 ea ry l (.inl rfl) fun w' s3 I3 rw'=>⟨v,_,I3,rw',q2⟩
end
section
variable {X:Cx} {pins:List (Addr×Obj)} {σ:St} {H:Hp} {s:Shared} {a:Addr} {kvs:List (Key×V)} {A:Around} {E:Value->Shared->Prop}
end
section
variable {X:Cx} {pins:List (Addr×Obj)} {σ:St} {H:Hp} {s:Shared} {a:Addr} {y:V} {u:Value} {A:Around} {E:Value->Shared->Prop}
end
section
variable {X:Cx}
end
section
variable {κ:Type} [DecidableEq κ]
end
end L2
namespace SK
open PySem PySem.Spec PyProof.Rows L2 PySem.W
section
variable {X:Cx} {ad:Ad} {pins:List (Addr×Obj)} {s:Shared} {σ:St} {H G:Hp} {ρ:Rho} {Q:VK} {E:Nat->Hp->Prop} {pos p ap cp:Pos} {a b c e:Expr} {f g h:F} {A i:Nat} {x:Str}
theorem i0 {k:Rk->R} (hr:RK X.K ad G H (xY A i k ρ) Q E): ∃ r,ρ[i]? =some (.rk A r)/\RK X.K ad G H (k r) Q E:=by
 unfold xY at hr
 cases e:ρ[i]? with
 | none=>rw [e] at hr;exact hr.elim
 | some sl=>
  rw [e] at hr
  cases sl with
  | rk C r=>
   have hr':RK X.K ad G H (if C=A then k r else .bad) Q E:=hr
   by_cases hc:C=A
   ·rw [if_pos hc] at hr'
    subst hc
    exact⟨r,rfl,hr'⟩
   ·rw [if_neg hc] at hr'
    exact hr'.elim
  | no=>exact hr.elim
  | sh d=>exact hr.elim
  | ow d=>exact hr.elim
  | dc d=>exact hr.elim
  | sd d=>exact hr.elim
theorem iB {K:Frag} {held:List (Str×D)} {kvs:List (L2.Key×V)} (h:HR K ad G held kvs) (x:Str):match n6 held x with | none=>lF kvs (Sum.inr x)=none | some d=> ∃ v,lF kvs (Sum.inr x)=some v/\Rep K ad G d v:=by
 induction h with
 | nil=>exact zB
 | @cons p q ps qs hq t ih=>
  unfold n6
  rw [List.find?_cons]
  by_cases e:p.1=x
  ·rw [decide_eq_true e]
   exact⟨q.2,hZ (by rw [hq.1,e]),hq.2⟩
  ·rw [decide_eq_false e]
   have ne: ¬ q.1=(Sum.inr x:L2.Key):=fun z=>e (by rw [hq.1] at z;exact Sum.inr.inj z)
   rw [iA ne]
   exact ih
theorem fF (RC:RkC X.K A) {r:Rk} {p0 dx d l1 l2:Addr} (h:RackIn X.K ad A G H p0 r dx d l1 l2) (hi:σ[i]? =some (some (.ref p0))) {Q:VK} {fd:Str} {v:V} (hf:[(("held":Str),V.ref d),("done", .ref l1),("undone", .ref l2)].lookup fd=some v) (na:fA X.K A fd) (q:Q v H):aKi X.K (aGh i) fd σ H Q:=
 ⟨.ref p0,hi,p0,A,dx,_,v,rfl,h.ins,RC.cl,na,hf,q⟩
theorem aBl (RC:RkC X.K A) (hN:X.N[i]? =some x) (hv:Vis X.env.scope x) (hd:(x==("__debug__":Str))=false) (hcd:(x==("__classdict__":Str))=false) (bb:Bool):
  ML X ad (.Attribute (.Name x p) (if bb then "done" else "undone") pos) (aF3 A i bb):=by
 refine PE.imp (fB (aZ hN hv hd hcd) rfl) fun σ H Q hz_=> ?_
 obtain⟨G,ρ,E,hG,hS,hx,hr⟩:=hz_
 unfold aF3 xY at hr
 cases e:ρ[i]? with
 | none=>rw [e] at hr;exact hr.elim
 | some sl=>
  rw [e] at hr
  cases sl with
  | rk C r=>
   have hr':LK X ad G H (if C=A then .ok (.lst (xF bb r)) else .bad) Q E:=hr
   by_cases hc:C=A
   ·rw [if_pos hc] at hr'
    subst hc
    obtain⟨p0,dx,d,l1,l2,h1,h2⟩:=hS.rk e
    obtain⟨v1,b1,b2⟩:=h2.done
    obtain⟨v2,c1,c2⟩:=h2.undone
    cases bb
    ·exact fF RC h2 h1 (fd:="undone") rfl RC.n3 (hr' _ G H (Step.refl hG) (.inr ⟨l2,v2,_,rfl,rfl,h2.g2,c1,c2⟩))
    ·exact fF RC h2 h1 (fd:="done") rfl RC.n2 (hr' _ G H (Step.refl hG) (.inr ⟨l1,v1,_,rfl,rfl,h2.g1,b1,b2⟩))
   ·rw [if_neg hc] at hr'
    exact hr'.elim
  | no=>exact hr.elim
  | sh d=>exact hr.elim
  | ow d=>exact hr.elim
  | dc d=>exact hr.elim
  | sd d=>exact hr.elim
theorem aEj (hu:X.A.units+62<cLine) (RC:RkC X.K A) (hN:X.N[i]? =some x) (hv:Vis X.env.scope x) (hd:(x==("__debug__":Str))=false) (hcd:(x==("__classdict__":Str))=false) (hf:ME X ad a f) (hs:aL9 a):
  ME X ad (.Subscript (.Attribute (.Name x p) "held" ap) a pos) (tQ A i f):=by
 refine PE.imp (aEh (by omega) (fB (aZ hN hv hd hcd) rfl) hf hs) fun σ H Q hz_=> ?_
 obtain⟨G,ρ,E,hG,hS,hx,hr⟩:=hz_
 unfold tQ at hr
 obtain⟨r,e,hr⟩:=i0 hr
 obtain⟨p0,dx,d,l1,l2,h1,h2⟩:=hS.rk e
 refine fF RC h2 h1 (fd:="held") rfl RC.n1 ?_
 refine fL hG hS hx hr fun v d' G1 H1 st rv k=> ?_
 obtain⟨kvs,a1,a2⟩:=(h2.step st).held
 cases d' with
 | str y=>
  unfold Rep at rv
  subst rv
  have hh:=iB a2 y
  have k':RK X.K ad G1 H1 (match n6 r.held y with | some d=> .ok d | none=> .bad) Q E:=k
  cases q:n6 r.held y with
  | none=>rw [q] at k';exact k'.elim
  | some dd=>
   rw [q] at k' hh
   obtain⟨v,e1,e2⟩:=hh
   refine⟨d,v,rfl, ?_,k'.ok_now st.gh e2⟩
   rw [<-e1]
   exact oS.k (k:=Sum.inr y) a1
 | _=>exact az k
theorem aEk (hu:X.A.units+62<cLine) (RC:RkC X.K A) (hN:X.N[i]? =some x) (hv:Vis X.env.scope x) (hd:(x==("__debug__":Str))=false) (hcd:(x==("__classdict__":Str))=false) (hf:ME X ad a f) (hm:M1 X (.Attribute (.Name x p) "held" pos) "get" ap a cp):
  ME X ad (.Call (.Attribute (.Attribute (.Name x p) "held" pos) "get" ap) [a] [] cp) (xZ A i f):=by
 refine PE.imp (zF (by omega) (fB (aZ hN hv hd hcd) rfl) hf hm) fun σ H Q hz_=> ?_
 obtain⟨G,ρ,E,hG,hS,hx,hr⟩:=hz_
 unfold xZ at hr
 obtain⟨r,e,hr⟩:=i0 hr
 obtain⟨p0,dx,d,l1,l2,h1,h2⟩:=hS.rk e
 obtain⟨kvs0,a0,_⟩:=h2.held
 refine fF RC h2 h1 (fd:="held") rfl RC.n1 ⟨d,rfl, .inl ⟨kvs0, .inl a0⟩, ?_⟩
 refine fL hG hS hx hr fun v d' G1 H1 st rv k=> ?_
 obtain⟨kvs,a1,a2⟩:=(h2.step st).held
 cases d' with
 | str y=>
  unfold Rep at rv
  subst rv
  have hh:=iB a2 y
  have k':RK X.K ad G1 H1 (.ok ((n6 r.held y).getD .non)) Q E:=k
  refine⟨lF kvs (Sum.inr y),oS.k (k:=Sum.inr y) a1, ?_⟩
  cases q:n6 r.held y with
  | none=>
   rw [q] at k' hh
   rw [hh]
   exact k'.ok_now st.gh (by unfold Rep;rfl)
  | some dd=>
   rw [q] at k' hh
   obtain⟨v,e1,e2⟩:=hh
   rw [e1]
   exact k'.ok_now st.gh e2
 | _=>exact az k
theorem aJh (hu:X.A.units+62<cLine) (RC:RkC X.K A) (hN:X.N[i]? =some x) (hv:Vis X.env.scope x) (hd:(x==("__debug__":Str))=false) (hcd:(x==("__classdict__":Str))=false) (hf:ME X ad a f) (neg:Bool):
  PC X (if neg then .NotIn else .In) a (.Attribute (.Name x p) "held" ap) (tE X ad (aF4 neg A i f)):=by
 have rd: ∀ (b:Bool) (σ:St) (H:Hp) (Q:VK),tE X ad (aF4 b A i f) σ H Q->tE X ad f σ H fun y H1=>aKi X.K (aGh i) "held" σ H1 fun z H2=> ∃ a o,z= .ref a/\oS H2 a y o/\Q (.bl (b != o.isSome)) H2:=fun b σ H Q hz_=>by
  obtain⟨G,ρ,E,hG,hS,hx,hr⟩:=hz_
  unfold aF4 at hr
  refine fL hG hS hx hr fun v d' G1 H1 st rv k=> ?_
  obtain⟨r,e,k⟩:=i0 k
  obtain⟨p0,dx,d,l1,l2,h1,h2⟩:=(hS.step st).rk e
  refine fF RC h2 h1 (fd:="held") rfl RC.n1 ?_
  obtain⟨kvs,a1,a2⟩:=h2.held
  cases d' with
  | str y=>
   unfold Rep at rv
   subst rv
   have hh:=iB a2 y
   have k':RK X.K ad G1 H1 (.ok (.bl (b != (n6 r.held y).isSome))) Q E:=k
   refine⟨d,lF kvs (Sum.inr y),rfl,oS.k (k:=Sum.inr y) a1, ?_⟩
   have es:(lF kvs (Sum.inr y)).isSome=(n6 r.held y).isSome:=by
    cases q:n6 r.held y with
    | none=>rw [q] at hh;rw [hh];rfl
    | some dd=>rw [q] at hh;obtain⟨v,e1,_⟩:=hh;rw [e1];rfl
   rw [es]
   exact k'.ok_now st.gh (by unfold Rep;rfl)
  | _=>exact az k
 intro pins s σ H Q I hz_
 cases neg
 ·refine aJd (by omega) hf (fB (aZ hN hv hd hcd) rfl) pins s σ H Q I ?_
  obtain⟨G,ρ,E,hG,hS,hx,hr⟩:=rd false σ H Q hz_
  exact⟨G,ρ,E,hG,hS,hx,by simpa using hr⟩
 ·refine vX (by omega) hf (fB (aZ hN hv hd hcd) rfl) pins s σ H Q I ?_
  obtain⟨G,ρ,E,hG,hS,hx,hr⟩:=rd true σ H Q hz_
  exact⟨G,ρ,E,hG,hS,hx,by simpa using hr⟩
end
theorem aBm {a b c:Str} (h1:ltS b a=false) (h2:ltS c b=false):ltS c a=false:=by
 unfold ltS at *
 rw [decide_eq_false_iff_not] at *
 rw [List.not_lt] at *
 exact List.le_trans h1 h2
theorem vY {a b:Str} (h1:ltS a b=false) (h2:ltS b a=false):a=b:=by
 unfold ltS at *
 rw [decide_eq_false_iff_not] at *
 rw [List.not_lt] at *
 have e:=List.le_antisymm h2 h1
 obtain⟨⟨x⟩⟩:=a
 obtain⟨⟨y⟩⟩:=b
 cases e
 rfl
theorem zH {a b:Str} (h:ltS a b=true):ltS b a=false:=by
 unfold ltS at *
 rw [decide_eq_true_iff] at h
 rw [decide_eq_false_iff_not,List.not_lt]
 exact List.le_of_lt h
theorem i5 (x:Str): ∀ l,(aCu x l).Perm (x::l)
 | []=>List.Perm.refl _
 | y::l=>by
  unfold aCu
  split
  ·exact((i5 x l).cons y).trans (List.Perm.swap x y l)
  ·exact List.Perm.refl _
theorem gQ: ∀ l,(kO l).Perm l
 | []=>List.Perm.refl _
 | x::l=>(i5 x _).trans ((gQ l).cons x)
theorem j5 (x:Str): ∀ {l:List Str},l.Pairwise (fun a b=>ltS b a=false)->(aCu x l).Pairwise (fun a b=>ltS b a=false)
 | [],_=>by simp [aCu]
 | y::l,h=>by
  rw [List.pairwise_cons] at h
  unfold aCu
  split
  ·rename_i hy
   rw [List.pairwise_cons]
   refine⟨fun z hz=> ?_,j5 x h.2⟩
   rcases au.mp ((i5 x l).mem_iff.mp hz) with rfl | hz
   ·exact zH hy
   ·exact h.1 z hz
  ·rename_i hy
   have hy':ltS y x=false:=by simpa using hy
   rw [List.pairwise_cons]
   refine⟨fun z hz=> ?_,List.pairwise_cons.mpr h⟩
   rcases au.mp hz with rfl | hz
   ·exact hy'
   ·exact aBm hy' (h.1 z hz)
theorem i6: ∀ l,(kO l).Pairwise (fun a b=>ltS b a=false)
 | []=> .nil
 | x::l=>j5 x (i6 l)
theorem qN: ∀ {l:List Str} {p:Str},risingS p l=true->(p::l).Pairwise (fun a b=>ltS b a=false)
 | [],p,_=>by simp
 | x::r,p,h=>by
  unfold risingS at h
  rw [av] at h
  have ih:=qN h.2
  have hx:ltS x p=false:=by
   have:=h.1
   rw [ltCps_eq] at this
   simpa [ltS] using this
  rw [List.pairwise_cons]
  refine⟨fun z hz=> ?_,ih⟩
  rcases au.mp hz with rfl | hz
  ·exact hx
  ·exact aBm hx ((List.pairwise_cons.mp ih).1 z hz)
theorem sC {l m:List Str} (p:m.Perm l) (h:sortedS m=true):m=kO l:=by
 have hp:m.Pairwise (fun a b=>ltS b a=false):=by
  cases m with
  | nil=>exact .nil
  | cons x r=>exact qN h
 exact List.Perm.eq_of_pairwise (fun a b _ _ x y=>vY y x) hp (i6 l) (p.trans (gQ l).symm)
section
variable {prog:Program} {w:World} {A:Around} {Ex:Value->Shared->Prop} {s:Shared} {T:String} {r d:Addr} {n:Nat} {P:Nat->Value->Prop} {OK:Heap->Prop}
theorem oV {Q:List Value->Shared->Prop} (S:KdlSrc prog w T r d n P OK) (hh:A.handled=none) (hok:OK s.heap) (hn:n<=sizeLine)
  (h: ∀ h' tk (vs:List Value),(∀ b o,s.heap.get? b=some o->h'.get? b=some o)->vs.length=n->(∀ j v,vs[j]? =some v->P j v)->Q vs { s with heap:=h',toks:=tk }):wpAny (model prog w) A (collect (.ref r)) Q Ex s:=by
 have lt:=S.there _ hok
 unfold collect
 refine aa (wpAny_runValue (codeAny_builtin entry_proto_collect' ?_))
 refine aa (wpAny_newList (ae ⟨Code.quiet_builtin _ (by decide+kernel),codeAny_builtin entry_list_iadd' ?_⟩))
 refine kdl_extend (A:=A) (R:=fun q s'=>match q with
  | .ok (.ret v)=>wpAny (model prog w) A (match v with
   | .ref a=>(do
    let o<-load a
    match o.data with
    | .seq xs _=>pure xs.toList
    | _=>unsupported "internal:collect")
   | _=>unsupported "internal:collect") Q Ex s'
  | .ok _=>False
  | .error e=>Ex e s') (s:={ s with heap:=s.heap.push (seqObj "list" #[] 0) }) S hh (S.keep _ _ hok fun b _ o e=>af _ e) s.heap.objs.size (Nat.ne_of_gt lt.1) (Nat.ne_of_gt lt.2) (.ref s.heap.objs.size) 0 (ag _ rfl) (fun h' tk acc c hk hS hacc=> ?_) hn
 refine aa (wpAny_load hS (ae ?_))
 refine h h' tk acc.toList (fun b o e=>hk b o (bh (ah e)) (af _ e)) (by rw [Array.length_toList];exact hacc.1) fun j v e=>hacc.2 j v (by rw [<-Array.getElem?_toList];exact e)
theorem sD {Q:Value->Shared->Prop} {ss:List Str} (S:KdlSrc prog w T r d n P OK) (hh:A.handled=none) (hok:OK s.heap) (h64:n<64) (hP: ∀ vs:List Value,vs.length=n->(∀ j v,vs[j]? =some v->P j v)->StrsAre vs ss)
  (h: ∀ (h1 h':Heap) tk (out:List Value) e,(∀ b o,s.heap.get? b=some o->h1.get? b=some o)->(∀ b o,h1.get? b=some o->h'.get? b=some o)->h'.get? h1.objs.size=some (seqObj "list" out.toArray e)->StrsAre out (kO ss)->Q (.ref h1.objs.size) { s with heap:=h',toks:=tk }):
  wpAny (model prog w) A (call (.builtin "sorted") [.ref r]) Q Ex s:=by
 refine Calls.call_function_entry kind_sorted plain_sorted entry_sorted (args_sorted1 _) ?_
 unfold Builtin.«sorted»
 refine aa (m:=checkCount "sorted" 1 1 _) (ae ?_)
 refine aa (oV (A:=A.in1) S hh hok (by rw [sizeLine_eq];omega) fun h1 tk vs hk hl hv=> ?_)
 have hs:=hP vs hl hv
 refine aa (wpAny_newList ?_ (by rw [sizeLine_eq];omega))
 have hoL:(h1.push (seqObj "list" vs.toArray 0)).get? h1.objs.size=some (seqObj "list" vs.toArray 0):=ag _ rfl
 refine aa (wpAny_holding (wpAny_call_entry slot_list_sort ⟨_,hoL,rfl⟩ entry_list_sort (list_sort_treeK (s:={ s with heap:=h1.push (seqObj "list" vs.toArray 0),toks:=tk }) strKind_oneLt hoL hs.keysOf (fun v₁ v₂ cI e=>keyKind_strs (by rw [<-e];exact hs)) (by omega) fun st' a1 a2=>⟨_,rfl, ?_⟩) (args_list_sort _)))
 obtain⟨ss',b1,b2,b3⟩:=sorted_out_str hs a1 a2
 obtain⟨e,he⟩:=sortedHeap_at (out:=(arrOf st').map (·.2)) hoL
 have old: ∀ b o,h1.get? b=some o->(sortedHeap (h1.push (seqObj "list" vs.toArray 0)) h1.objs.size vs ((arrOf st').map (·.2))).get? b=some o:=fun b o q1=>by
  have lt:b<h1.objs.size:=ah q1
  rw [sortedHeap_old (bh lt) (by rw [ai];exact Nat.lt_succ_of_lt lt),Heap.get?_push_ne _ _ _ (bh lt)]
  exact q1
 exact ae ⟨_,rfl,h h1 _ tk ((arrOf st').map (·.2)).toList e hk old (by rw [Array.toArray_toList];exact he) (by rw [<-sC b2 b3];exact b1)⟩
end
noncomputable def aJi:List V->Hp->VK->Prop:=fun xs H Q=> ∃ d kvs ks,xs=[V.ref d]/\H d=some (.dK kvs)/\kvs.map (·.1)=ks.map (fun k:Str=>(Sum.inr k:L2.Key))/\ks.length<64/\ ∀ p,H p=none->Q (.ref p) (upd H p (.lst ((kO ks).map V.str)))
theorem vZ {vs:List Value} {ss:List Str} (h:StrsAre vs ss):aY (ss.map V.str) vs:=by
 induction h with
 | nil=>exact .nil
 | cons y t _ ih=>exact .cons ⟨t,rfl⟩ ih
theorem sE {X:Cx} (hc:X.calm=true):jG X (.builtin "sorted") aJi:=by
 intro pins s σ H xs us Q I r h
 obtain⟨d,kvs,ks,rfl,hd,hk,h64,q⟩:=h
 obtain⟨u,rfl,ru⟩:=aY.one r
 cases ru
 obtain⟨z,lo,vs,kv,dd⟩:=aEd I.hok hd
 obtain⟨o,es,ep,m1,m2,m3,m4,m5,m6⟩:=dd
 have hkeys:vs.map (·.1)=ks.map (fun k:Str=>(Sum.inr k:L2.Key)):=by rw [<-kv.keys];exact hk
 have hvl:vs.length=ks.length:=by simpa using congrArg List.length hkeys
 refine sD (ss:=ks) (kdl_dict (knd:=bK X.prog X.w) (kvs:=vs) (ep:=ep) lo) (I.ok.hd hc) ⟨o,es,m1,m2,m3,m4,m5,m6⟩ (by omega) (fun ws hl hv=> ?_) fun h1 h' tk out e k1 k2 e1 e2=> ?_
 ·have key: ∀ (ws:List Value) (ks:List Str),ws.length=ks.length->(∀ (j:Nat) (v:Value),ws[j]? =some v-> ∃ k,ks[j]? =some k/\ ∃ t,v=Value.str k t)->StrsAre ws ks:=by
   intro ws
   induction ws with
   | nil=>intro ks hl _;cases ks with | nil=>exact .nil | cons _ _=>cases hl
   | cons v ws ih=>
    intro ks hl hv
    cases ks with
    | nil=>cases hl
    | cons k ks=>
     obtain⟨k',e1,t,e2⟩:=hv 0 v rfl
     cases e1
     subst e2
     exact .cons k t (ih ks (by simpa using hl) fun j v e=>hv (j+1) v e)
  refine key ws ks (by omega) fun j v e=> ?_
  obtain⟨k,x,e1,e2⟩:=hv j v e
  have e3:(ks.map (fun k:Str=>(Sum.inr k:L2.Key)))[j]? =some k:=by rw [<-hkeys,List.getElem?_map,e1];rfl
  rw [List.getElem?_map] at e3
  cases e4:ks[j]? with
  | none=>rw [e4] at e3;cases e3
  | some y=>
   rw [e4] at e3
   cases e3
   refine⟨y,rfl, ?_⟩
   exact Value.isStrOf_shape e2
 ·have I1:Inv X pins σ H { s with heap:=h1,toks:=tk }:=I.kept k1
  have n:=I1.hok.fresh (aj h1.objs.size)
  have hz:((kO ks).map V.str).length<=sizeLine:=by
   rw [ao,(gQ ks).length_eq]
   exact Nat.le_trans (Nat.le_of_lt h64) (by decide)
  exact⟨.ref h1.objs.size,_,I1.laid (o:= .lst ((kO ks).map V.str)) (t':=tk) k2 (aj _) ⟨hz,out,e,vZ e2,e1⟩,rfl,q _ n⟩
section
variable {X:Cx} {ad:Ad} {pos p np ap:Pos} {A i:Nat} {x:Str}
theorem aEl {K:Frag} {G:Hp} {held:List (Str×D)} {kvs:List (L2.Key×V)} (h:HR K ad G held kvs):kvs.map (·.1)=(held.map (·.1)).map (fun k:Str=>(Sum.inr k:L2.Key)):=by
 induction h with
 | nil=>rfl
 | cons hq t ih=>rw [List.map_cons,List.map_cons,List.map_cons,ih,hq.1]
theorem mY {K:Frag} {G:Hp}: ∀ ss:List Str,aF K ad G (ss.map D.str) (ss.map V.str)
 | []=>aF.nil
 | s::ss=>aF.cons (by unfold Rep;rfl) (mY ss)
theorem aEm (hc:X.calm=true) (RC:RkC X.K A) (hg:L2.Gl X "sorted") (hm:X.mg "sorted"=none) (hN:X.N[i]? =some x) (hv:Vis X.env.scope x) (hd:(x==("__debug__":Str))=false) (hcd:(x==("__classdict__":Str))=false):
  ME X ad (.Call (.Name "sorted" p) [.Attribute (.Name x np) "held" ap] [] pos) (aCv A i):=by
 refine PE.imp (pH (sE hc) hg hm (by decide+kernel) (bE (fB (aZ hN hv hd hcd) rfl) cL rfl)) fun σ H Q hz_=> ?_
 obtain⟨G,ρ,E,hG,hS,hx,hr⟩:=hz_
 obtain⟨r,e,hr⟩:=i0 hr
 obtain⟨p0,dx,d,l1,l2,h1,h2⟩:=hS.rk e
 obtain⟨kvs,a1,a2⟩:=h2.held
 by_cases hl:r.held.length<64
 ·rw [if_pos hl] at hr
  refine fF RC h2 h1 (fd:="held") rfl RC.n1 ⟨d,kvs,r.held.map (·.1),rfl,a1,aEl a2,by simpa using hl,fun q n=> ?_⟩
  exact hr.ow_new hG (mY _) n
 ·rw [if_neg hl] at hr
  exact hr.elim
end
theorem qO {m:Str} {d l1 l2:Addr} (h:m≠"held"/\m≠"done"/\m≠"undone"):[(("held":Str),V.ref d),("done", .ref l1),("undone", .ref l2)].lookup m=none:=by
 have e1:(m==("held":Str))=false:=by simpa using h.1
 have e2:(m==("done":Str))=false:=by simpa using h.2.1
 have e3:(m==("undone":Str))=false:=by simpa using h.2.2
 rw [List.lookup_cons,e1,List.lookup_cons,e2,List.lookup_cons,e3,List.lookup_nil]
theorem fY {o:Expr} {m:Str} {ap cp:Pos} {es:List Expr} {env:PySem.Env} (hb:attributeBase o m env (eval o env)=eval o env) (hf:methodCallForm (es.length+([]:List Keyword).length) (backTo cp (starEach es env)) (backToKw cp (keywordEach [] env))=true) (hl:(ap.endLine==cp.line)=true):
  eval (.Call (.Attribute o m ap) es [] cp) env=(do
   let ov<-eval o env
   standAt ap.atName
   let (f,first)<-holding [ov] (getMethod ov m (do return (<-importBound o env).getD true))
   callWith cp f first (backTo cp (starEach es env)) (backToKw cp (keywordEach [] env))):=by
 rw [arm_eval_Call,hb]
 unfold methodCall calleeOf methodCallPos
 rw [hf,hl]
 rfl
section
variable {X:Cx} {ad:Ad} {pins:List (Addr×Obj)} {s:Shared} {σ:St} {H G:Hp} {ρ:Rho} {Q:VK} {E:Nat->Hp->Prop} {pos p ap cp:Pos} {a b c e:Expr} {es:List Expr} {f g h:F} {fs:List F} {A i n:Nat} {x m:Str} {M:FM}
theorem v5 {G H:Hp} {p0 dx d l1 l2:Addr} {m:RM} (h:RK X.K ad G H m.told Q E):RMK X.K ad A G H p0 dx d l1 l2 m Q E:=by
 cases m with
 | pure x=>exact h
 | chg _ _=>exact az h
theorem RMK.impE {G H:Hp} {p0 dx d l1 l2:Addr} {m:RM} {E':Nat->Hp->Prop} (h:RMK X.K ad A G H p0 dx d l1 l2 m Q E) (k: ∀ c H',E c H'->E' c H'):RMK X.K ad A G H p0 dx d l1 l2 m Q E':=by
 cases m with
 | pure x=>exact RK.impE h k
 | chg _ _=>exact h
theorem i7 (M0:MetOk X ad A m n M) {us:List Value} {vs:List V} {ds:List D} {r:Rk} {p0 dx d l1 l2:Addr} (I:Inv X pins σ H s) (hG:Same G H) (hR:RackIn X.K ad A G H p0 r dx d l1 l2) (rv:aY vs us) (rq:aF X.K ad G ds vs) (hl:ds.length=n) (hx:XP X ad σ E) (h:RMK X.K ad A G H p0 dx d l1 l2 (M r ds) Q E) {f:Addr} (hf:Meth X.K A m f):
  wpAny (model X.prog X.w) X.A (call (.ref f) (.ref p0::us)) (EP X pins σ Q) X.xe s:=by
 obtain⟨f',k,fd,ps,h1,h2,h3,h4⟩:=M0.ok
 have e:f'=f:=by
  have z:=h1.at_.symm.trans hf.at_
  cases z
  rfl
 subst e
 exact uE (vs:=V.ref p0::vs) (E:=xk ad E) h2 h3 h4 I (.cons rfl rv) ⟨G,p0,r,dx,d,l1,l2,ds,vs,rfl,hG,hR,rq,hl,h.impE fun c H' e=>⟨c,rfl,e⟩⟩ fun e s' hc=>hx pins H s e s' I hc
theorem zI (RC:RkC X.K A) (M0:MetOk X ad A m n M) (hN:X.N[i]? =some x) (hv:Vis X.env.scope x) (hd:(x==("__debug__":Str))=false) (hcd:(x==("__classdict__":Str))=false) (ha:MA X ad (a::es) fs) (hn:fs.length=n)
  (hst:starEach (a::es) X.env=(false,eval a X.env)::starEach es X.env) (hpl:(backTo cp (starEach es X.env)).any (·.1)=false) (hfm:methodCallForm ((a::es).length+([]:List Keyword).length) (backTo cp (starEach (a::es) X.env)) (backToKw cp (keywordEach [] X.env))=true) (hln:(ap.endLine==cp.line)=true)
  (I:Inv X pins σ H s) (hG:Same G H) (hS:SL X.K ad G H ρ σ) (hx:XP X ad σ E) {r:Rk} {p0 dx d l1 l2:Addr} (h1:σ[i]? =some (some (.ref p0))) (hR:RackIn X.K ad A G H p0 r dx d l1 l2) {W:List D->R}
  (hr:RK X.K ad G H (nH fs ρ W) Q E) (hq: ∀ ds G1 H1,Step G H G1 H1->RK X.K ad G1 H1 (W ds) Q E->RMK X.K ad A G1 H1 p0 dx d l1 l2 (M r ds) Q E):
  wpAny (model X.prog X.w) X.A (eval (.Call (.Attribute (.Name x p) m ap) (a::es) [] cp) X.env) (EP X pins σ Q) X.xe s:=by
 obtain⟨f,k,fd,ps,hm,_⟩:=M0.ok
 refine PySem.W.methodCall_KW (L2.thn (aZ hN hv hd hcd pins s σ H (fun v H1=>v= .ref p0/\H1=H) I ⟨.ref p0,h1,rfl,rfl⟩) fun u s1 hz_=> ?_) (fY rfl hfm hln)
 obtain⟨v,H1,I1,r1,e1,e2⟩:=hz_
 subst e1;subst e2
 cases (show u=Value.ref p0 from r1)
 refine eS I1 hR.ins RC.cl hm (qO M0.no) ?_
 refine PySem.W.callWith_K (first:=[.ref p0]) (h₀:=X.base) I1.ok.mod.kin hm.kp (L2.thn (ha cp pins s1 σ H1 (fun vs H2=> ∃ ds G1,Step G H1 G1 H2/\aF X.K ad G1 ds vs/\ds.length=fs.length/\RK X.K ad G1 H2 (W ds) Q E) I1
  (oG hG hS hx hr fun vs ds G1 H2 st rq hl k=>⟨ds,G1,st,rq,hl,k⟩)) fun us s2 ⟨vs,H2,I2,r2,ds,G1,st,rq,hl,k⟩=>⟨I2.kIn, ?_⟩) hst hpl
 exact i7 M0 I2 st.gh (hR.step st) r2 rq (hl.trans hn) hx (hq ds G1 H2 st k) hm
theorem v6 (RC:RkC X.K A) (M0:MetOk X ad A m 0 M) (hN:X.N[i]? =some x) (hv:Vis X.env.scope x) (hd:(x==("__debug__":Str))=false) (hcd:(x==("__classdict__":Str))=false) (hln:(ap.endLine==cp.line)=true)
  (I:Inv X pins σ H s) (hG:Same G H) (hx:XP X ad σ E) {r:Rk} {p0 dx d l1 l2:Addr} (h1:σ[i]? =some (some (.ref p0))) (hR:RackIn X.K ad A G H p0 r dx d l1 l2) (hq:RMK X.K ad A G H p0 dx d l1 l2 (M r []) Q E):
  wpAny (model X.prog X.w) X.A (eval (.Call (.Attribute (.Name x p) m ap) [] [] cp) X.env) (EP X pins σ Q) X.xe s:=by
 obtain⟨f,k,fd,ps,hm,_⟩:=M0.ok
 refine PySem.W.methodCall_KW (L2.thn (aZ hN hv hd hcd pins s σ H (fun v H1=>v= .ref p0/\H1=H) I ⟨.ref p0,h1,rfl,rfl⟩) fun u s1 hz_=> ?_) (fY rfl rfl hln)
 obtain⟨v,H1,I1,r1,e1,e2⟩:=hz_
 subst e1;subst e2
 cases (show u=Value.ref p0 from r1)
 refine eS I1 hR.ins RC.cl hm (qO M0.no) ?_
 exact PySem.W.callWith_K0 (first:=[.ref p0]) I1.kIn hm.kp (i7 M0 I1 hG hR .nil aF.nil rfl hx hq hm)
theorem aJj (RC:RkC X.K A) (M0:MetOk X ad A m n M) (hN:X.N[i]? =some x) (hv:Vis X.env.scope x) (hd:(x==("__debug__":Str))=false) (hcd:(x==("__classdict__":Str))=false) (ha:MA X ad es fs) (hn:fs.length=n)
  (hst: ∀ a r,es=a::r->starEach (a::r) X.env=(false,eval a X.env)::starEach r X.env/\(backTo cp (starEach r X.env)).any (·.1)=false) (hl:es.length=fs.length) (hfm:methodCallForm (es.length+([]:List Keyword).length) (backTo cp (starEach es X.env)) (backToKw cp (keywordEach [] X.env))=true) (hln:(ap.endLine==cp.line)=true):
  ME X ad (.Call (.Attribute (.Name x p) m ap) es [] cp) (jK A i M fs):=by
 intro pins s σ H Q I ⟨G,ρ,E,hG,hS,hx,hr⟩
 obtain⟨r,e,hr⟩:=i0 hr
 obtain⟨p0,dx,d,l1,l2,h1,h2⟩:=hS.rk e
 cases es with
 | nil=>
  cases fs with
  | nil=>
   subst hn
   exact v6 RC M0 hN hv hd hcd hln I hG hx h1 h2 (v5 hr)
  | cons _ _=>cases hl
 | cons a r'=>exact zI RC M0 hN hv hd hcd ha hn (hst a r' rfl).1 (hst a r' rfl).2 hfm hln I hG hS hx h1 h2 hr fun ds G1 H1 st k=>v5 k
end
theorem bU {l:List Expr} {a:Expr} (h:one l=some a):l=[a]:=by
 unfold one at h
 split at h
 ·cases h;rfl
 ·cases h
theorem mZ {l:List Expr} {a b:Expr} (h:two l=some (a,b)):l=[a,b]:=by
 unfold two at h
 split at h
 ·cases h;rfl
 ·cases h
theorem aM {e:Expr} {x:Str} {p:Pos} (h:bJ e=some (x,p)):e= .Name x p:=by
 cases e<;>first | (cases h;rfl) | (cases h;done)
theorem oW {e:Expr} {es:List Expr} {k:Nat} {p:Pos} (h:aCr e=some (es,k,p)):e= .Tuple es k p:=by
 cases e<;>first | (cases h;rfl) | (cases h;done)
theorem v7 {e:Expr} {lo hi:Option Expr} (h:aAz e=some (lo,hi)): ∃ p,e= .Slice lo hi none p:=by
 cases e<;>try (cases h;done)
 rename_i a b c p
 cases c with
 | none=>cases h;exact⟨p,rfl⟩
 | some c=>cases h
theorem zJ {e:Expr} {t t':Str} (h:aCs e=some (t,t')): ∃ j p p1 p2,e= .Tuple [.Name t p1, .Name t' p2] j p:=by
 unfold aCs at h
 have hx:=zBd h
 clear h
 obtain⟨⟨es,j,p⟩,h1,h⟩:=hx
 cases oW h1
 have hx:=zBd h
 clear h
 obtain⟨⟨u,v⟩,h2,h⟩:=hx
 cases mZ h2
 have hx:=zBd h
 clear h
 obtain⟨⟨x,p1⟩,h3,h⟩:=hx
 cases aM h3
 have hx:=zMd h
 clear h
 obtain⟨⟨y,p2⟩,h4,h⟩:=hx
 cases aM h4
 cases h
 exact⟨j,p,p1,p2,rfl⟩
theorem aKt {dE:Expr->Option F} {C:SK.Ctx} {a:Expr} {f:F} (h:aHz dE C a=some f): ∃ x p b q,a= .Call (.Name x p) [b] [] q/\glo C x=some (.py .range)/\dE b=some f:=by
 unfold aHz at h
 split at h
 ·rename_i f' as kws q
  split at h
  ·rename_i hk
   obtain⟨⟨x,p⟩,h1,h⟩:=zBd h
   obtain⟨b,h2,h⟩:=zBd h
   split at h
   ·rename_i e1 e2
    exact⟨x,p,b,q,by rw [aM h1,bU h2,List.isEmpty_iff.mp hk],e2,h⟩
   ·cases h
  ·cases h
 ·cases h
theorem dH {α:Type} {l:List α} (h:l.isEmpty=true):l=[]:=List.isEmpty_iff.mp h
noncomputable def fZ:Expr->Prop
 | .Starred _ _=>False
 | _=>True
theorem aJ {e:Expr} {es:List Expr} {env:PySem.Env} (h:fZ e):starEach (e::es) env=(false,eval e env)::starEach es env:=by
 cases e<;>first | rfl | exact h.elim
noncomputable def j6:Expr->Prop
 | .Set _ _ _=>False
 | _=>True
theorem aJk {C:SK.Ctx} {e:Expr} {i:Nat} (h:dnN C e=some i): ∃ x p,e= .Name x p/\loc C x=some i:=by
 unfold dnN at h
 obtain⟨⟨x,p⟩,h1,h2⟩:=zBd h
 cases aM h1
 have h3:(if C.bs.contains (mE x)=true then loc C x else none)=some i:=h2
 by_cases hc:C.bs.contains (mE x)=true
 ·rw [if_pos hc] at h3
  exact⟨x,p,rfl,h3⟩
 ·rw [if_neg hc] at h3
  cases h3
theorem aJl {C:SK.Ctx} {op:CmpOp} {e:Expr} {i:Nat} (h:inN C op e=some i): ∃ x p,e= .Name x p/\loc C x=some i:=by
 unfold inN at h
 split at h
 ·obtain⟨⟨x,p⟩,h1,h2⟩:=zBd h
  cases aM h1
  exact⟨x,p,rfl,h2⟩
 ·cases h
theorem dD {e:Expr} {op:CmpOp} (h:j6 e):behindInMarks op e=false:=by
 cases e<;>first | rfl | exact h.elim
theorem m7 {b c:Expr} {op op':CmpOp} (h:j6 c):lastMarks [op,op'] [b,c]=false:=by
 show behindInMarks op' c=false
 exact dD h
theorem qP {e:Expr} (h: ∀ a b c d,e≠ .Slice a b c d):sY e:=by
 intro o i
 cases e<;>first | rfl | exact absurd rfl (h _ _ _ _)
theorem aI {n:Nat} {C:SK.Ctx} {e:Expr} {f:F} (h:bA n C e=some f):fZ e/\j6 e/\ ∀ a b c d,e≠ .Slice a b c d:=by
 cases n with
 | zero=>cases h
 | succ n=>cases e<;>first | (cases h;done) | (refine⟨trivial,trivial, ?_⟩;intro a b c d z;cases z;done)
theorem bV {n:Nat} {C:SK.Ctx} {e:Expr} {f:F} (h:sK n C e=some f):fZ e/\j6 e:=by
 cases n with
 | zero=>cases h
 | succ n=>
  by_cases hn: ∃ x p,e= .Name x p
  ·obtain⟨x,p,rfl⟩:=hn
   exact⟨trivial,trivial⟩
  ·have:bA n C e=some f:=by
    rw [<-h]
    cases e<;>first | rfl | exact absurd ⟨_,_,rfl⟩ hn
   exact⟨(aI this).1,(aI this).2.1⟩
theorem m8 {n:Nat} {C:SK.Ctx} {tt:Bool} {e:Expr} {f:F} (h:aCx n C tt e=some f):j6 e:=by
 cases n with
 | zero=>cases h
 | succ n=>cases e<;>first | trivial | exact(bV h).2
section
variable {ad:Ad}
def v8 (ad:Ad) (n:Nat):Prop:= ∀ (X:Cx) (C:SK.Ctx) (e:Expr) (f:F),CtxOk X ad C->bA n C e=some f->ME X ad e f/\MT X ad e f/\ ∀ op es p,e= .BoolOp op es p->MW X ad e f
def aF8 (ad:Ad) (n:Nat):Prop:= ∀ (X:Cx) (C:SK.Ctx) (e:Expr) (f:F),CtxOk X ad C->sK n C e=some f->ML X ad e f
def aJm (ad:Ad) (n:Nat):Prop:= ∀ (X:Cx) (C:SK.Ctx) (tg e:Expr) (tt:Bool) (f:F),CtxOk X ad C->(tt=true-> ∃ es k p,tg= .Tuple es k p)->aCx n C tt e=some f->MI X ad tg e f/\((∀ x p,e≠ .Name x p)->MIG X ad tg e f)
variable {X:Cx} {C:SK.Ctx} {n:Nat}
theorem oX (hE:v8 ad n) (O:CtxOk X ad C): ∀ {es:List Expr} {fs:List F},dO (bA n C) es=some fs->MA X ad es fs/\ ∀ e∈es,fZ e
 | [],fs,h=>by
  cases h
  exact⟨aA6,fun _ h=>by cases h⟩
 | e::es,fs,h=>by
  unfold dO at h
  cases e1:bA n C e with
  | none=>rw [e1] at h;cases h
  | some f=>
   rw [e1] at h
   obtain⟨r,h1,h2⟩:=zMd h
   subst h2
   obtain⟨q1,q2⟩:=oX hE O h1
   have ns:=(aI e1).1
   exact⟨oF (hE X C e f O e1).1 q1 (aJ ns),fun a ha=>by
    rcases au.mp ha with rfl | ha
    ·exact ns
    ·exact q2 a ha⟩
theorem eY {α β:Type} {f:α->Option β}: ∀ {l:List α} {r:List β},dO f l=some r->r.length=l.length
 | [],r,h=>by cases h;rfl
 | x::l,r,h=>by
  unfold dO at h
  cases e:f x with
  | none=>rw [e] at h;cases h
  | some y=>
   rw [e] at h
   obtain⟨r',h1,h2⟩:=zMd h
   subst h2
   simp [eY h1]
theorem qQ {env:PySem.Env} {pos:Pos}: ∀ {es:List Expr},(∀ e∈es,fZ e)->(backTo pos (starEach es env)).any (·.1)=false
 | [],_=>rfl
 | e::es,h=>by
  rw [aJ (h e (.head _))]
  show(false||(backTo pos (starEach es env)).any (·.1))=false
  rw [qQ fun a ha=>h a (.tail _ ha)]
  rfl
theorem aMc (hE:v8 ad n) (hL:aF8 ad n) (O:CtxOk X ad C) {x:Str} {p:Py} {as:List Expr} {f:F} {np pos:Pos} (hg:glo C x=some (.py p)) (h:aCw (bA n C) (sK n C) C p as=some f):ME X ad (.Call (.Name x np) as [] pos) f:=by
 obtain⟨g1,g2,g3,g4⟩:=O.gl hg
 unfold aCw at h
 split at h
 ·have hx:=zBd h
  clear h
  obtain⟨a,h0,h⟩:=hx
  cases bU h0
  obtain⟨fa,h1,rfl⟩:=zMd h
  subst g3
  exact iS uA g1 g4 (by decide+kernel) (hL X C _ fa O h1) (by decide) g2 (aJ (bV h1).1)
 ·have hx:=zBd h
  clear h
  obtain⟨a,h0,h⟩:=hx
  cases bU h0
  obtain⟨fa,h1,rfl⟩:=zMd h
  subst g3
  exact t9 aC9 g1 g4 (by decide+kernel) (hL X C _ fa O h1) (by decide) g2 (aJ (bV h1).1)
 ·have hx:=zBd h
  clear h
  obtain⟨a,h0,h⟩:=hx
  cases bU h0
  obtain⟨fa,h1,rfl⟩:=zMd h
  subst g3
  exact t9 uB g1 g4 (by decide+kernel) (hL X C _ fa O h1) (by decide) g2 (aJ (bV h1).1)
 ·have hx:=zBd h
  clear h
  obtain⟨a,h0,h⟩:=hx
  cases bU h0
  obtain⟨fa,h1,rfl⟩:=zMd h
  subst g3
  exact t9 yC g1 g4 (by decide+kernel) (hL X C _ fa O h1) (by decide) g2 (aJ (bV h1).1)
 ·have hx:=zBd h
  clear h
  obtain⟨a,h0,h⟩:=hx
  cases bU h0
  obtain⟨fa,h1,rfl⟩:=zMd h
  subst g3
  exact iS (aDa O.hd) g1 g4 (by decide+kernel) (hL X C _ fa O h1) (by decide) g2 (aJ (bV h1).1)
 ·have hx:=zBd h
  clear h
  obtain⟨a,h0,h⟩:=hx
  cases bU h0
  obtain⟨fa,h1,rfl⟩:=zMd h
  subst g3
  exact iS (aDb O.hd) g1 g4 (by decide+kernel) (hL X C _ fa O h1) (by decide) g2 (aJ (bV h1).1)
 ·have hx:=zBd h
  clear h
  obtain⟨a,h0,h⟩:=hx
  cases bU h0
  obtain⟨fa,h1,rfl⟩:=zMd h
  subst g3
  exact iS (aDc O.hd) g1 g4 (by decide+kernel) (hL X C _ fa O h1) (by decide) g2 (aJ (bV h1).1)
 ·cases h
 ·cases h
 ·cases h
 ·cases h
 ·have hx:=zBd h
  clear h
  obtain⟨⟨a,b⟩,h0,h⟩:=hx
  cases mZ h0
  dsimp only at h
  split at h
  ·rename_i t t' hv
   obtain⟨j,p0,p1,p2,rfl⟩:=zJ hv
   have hx:=zBd h
   clear h
   obtain⟨fa,h1,h⟩:=hx
   obtain⟨g,h2,h⟩:=zBd h
   obtain⟨P,h3,h⟩:=zBd h
   obtain⟨g',h4,h⟩:=zBd h
   obtain⟨P',h5,rfl⟩:=zMd h
   subst g3
   obtain⟨cv,c1,c2⟩:=uW O h2 h3
   obtain⟨cv',c3,c4⟩:=uW O h4 h5
   exact yT O.exc g1 g4 c1 c2 c3 c4 (hE X C _ fa O h1).1 (aJ (aI h1).1)
  ·have hx:=zBd h
   clear h
   obtain⟨⟨tn,tp⟩,hv,h⟩:=hx
   cases aM hv
   obtain⟨fa,h1,h⟩:=zBd h
   obtain⟨g,h2,h⟩:=zBd h
   obtain⟨P,h3,rfl⟩:=zMd h
   subst g3
   obtain⟨cv,c1,c2⟩:=uW O h2 h3
   by_cases hb:bsN C a=true
   ·rw [if_pos hb] at h1
    exact uV O.exc g1 g4 c1 c2 (hL X C _ fa O h1) (aJ (bV h1).1)
   ·rw [if_neg hb] at h1
    exact uV O.exc g1 g4 c1 c2 (hE X C _ fa O h1).1.ml (aJ (aI h1).1)
 ·cases h
theorem oY {e:Expr} {f:F} (h:ME X ad e f) (ht: ∀ whole,isTrue e X.env whole=(do let v<-whole;standAt e.pos;holding [v] (truthy v))) (hb: ∀ op es p,e≠ .BoolOp op es p):ME X ad e f/\MT X ad e f/\ ∀ op es p,e= .BoolOp op es p->MW X ad e f:=
 ⟨h,aIc h ht,fun op es p z=>absurd z (hb op es p)⟩
theorem zK {e:Expr} {f:F} (h:MW X ad e f):MT X ad e f:=fun pins s σ H Q I t=>h _ pins s σ H Q I t
theorem aBn {tg:Expr} {xs:List Str} {k:Nat} (h:bR tg=some (xs,k)):xs.length=(if k=0 then 1 else k)/\((k != 0)=true-> ∃ es j p,tg= .Tuple es j p):=by
 cases tg<;>try (cases h;done)
 ·cases h
  exact⟨rfl,fun z=>absurd z (by decide)⟩
 ·rename_i es j p
  unfold bR at h
  obtain⟨ys,e1,e2⟩:=zBd h
  by_cases hl:2<=ys.length
  ·rw [if_pos hl] at e2
   cases e2
   exact⟨by rw [if_neg (by omega)],fun _=>⟨es,j,p,rfl⟩⟩
  ·rw [if_neg hl] at e2
   cases e2
theorem j7 (hE:v8 ad n) (hI:aJm ad n) (O:CtxOk X ad C) {elt tg it:Expr} {ifs:List Expr} {sc:Scope} {pos:Pos} {f:F} (h:bA (n+1) C (.ListComp elt [⟨tg,it,ifs,0⟩] sc pos)=some f):
  ∃ xs k cs fi fc fe,f=bO k cs fi fc fe/\CompSc X C sc xs cs/\MI X ad tg it fi/\(∀ a b c,it≠ .Set a b c)/\xs.length=(if k=0 then 1 else k)/\(∀ fp s3 H3 pins',PG (cX X (xs++aO sc) sc s3 H3 fp pins') tg (gTg X.K k))/\
   (∀ fp s3 H3 pins',MTs (cX X (xs++aO sc) sc s3 H3 fp pins') ad ifs fc)/\ ∀ fp s3 H3 pins',ME (cX X (xs++aO sc) sc s3 H3 fp pins') ad elt fe:=by
 have h':((bR tg).bind fun(xs,k)=>(aCx n C (k != 0) it).bind fun fi=>if iQ sc xs then
    (dO (fun x=>dR C x) (aO sc)).bind fun cs=>(match ifs with
    | []=>some none
    | [c]=>(bA n { C with sc:=sc,N:=xs++aO sc } c).map some
    | _=>none).bind fun c=>(bA n { C with sc:=sc,N:=xs++aO sc } elt).map fun e=>bO k cs fi c e
   else none)=some f:=h
 clear h
 obtain⟨⟨xs,k⟩,e1,h⟩:=zBd h'
 obtain⟨fi,e2,h⟩:=zBd h
 obtain⟨l1,l2⟩:=aBn e1
 by_cases hc:iQ sc xs=true
 ·rw [if_pos hc] at h
  obtain⟨cs,e3,h⟩:=zBd h
  obtain⟨fc,e4,h⟩:=zBd h
  obtain⟨fe,e5,e6⟩:=zMd h
  obtain⟨c1,c2,c3,c4,c5,c6,c7⟩:=gP hc
  have inn: ∀ fp s3 H3 pins',CtxOk (cX X (xs++aO sc) sc s3 H3 fp pins') ad { C with sc:=sc,N:=xs++aO sc }:=fun fp s3 H3 pins'=>aIx O hc e3
  refine⟨xs,k,cs,fi,fc,fe,e6.symm,uX O hc e3,(hI X C tg it _ fi O l2 e2).1,fun a b c z=> ?_,l1,fun fp s3 H3 pins'=> ?_,fun fp s3 H3 pins'=> ?_,fun fp s3 H3 pins'=>(hE _ _ elt fe (inn fp s3 H3 pins') e5).1⟩
  ·subst z
   exact m8 e2
  ·by_cases hcel:mD sc=[]
   case neg=>
    rcases c2 with z | ⟨z,l⟩
    ·exact absurd z hcel
    ·obtain⟨x,rfl⟩:=List.length_eq_one_iff.mp l
     refine aDz (X:=cX X ([x]++aO sc) sc s3 H3 fp pins') (x:=x) c5 e1 rfl rfl ?_ (decide_eq_true z)
     show(relabel sc X.env).names.lookup x=some .cell
     have e7:=bH (env:=X.env) (x:=x) (names:=sc.names)
     rw [c3 x (.head _),z] at e7
     exact e7
   refine aL2 (X:=cX X (xs++aO sc) sc s3 H3 fp pins') O.calm c5 e1 fun i x hx=>⟨?_, ?_⟩
   ·show(xs++aO sc)[i]? =some x
    rw [bx (ax.mp hx).1]
    exact hx
   ·show(relabel sc X.env).names.lookup x=some .local
    have e7:=bH (env:=X.env) (x:=x) (names:=sc.names)
    rw [c3 x (List.mem_of_getElem? hx),hcel] at e7
    exact e7
  ·split at e4
   ·cases e4
    trivial
   ·obtain⟨g,e8,rfl⟩:=zMd e4
    exact(hE _ _ _ g (inn fp s3 H3 pins') e8).2.1
   ·cases e4
 ·rw [if_neg hc] at h
  cases h
theorem f8 {C:SK.Ctx} {f:Str} {e:Expr} {i:Nat} (h:atF C f e=some i): ∃ x p q,e= .Attribute (.Name x p) f q/\loc C x=some i:=by
 unfold atF at h
 obtain⟨⟨o,g,q⟩,h1,h2⟩:=zBd h
 have h3:(if g=f then(bJ o).bind fun(x,_)=>loc C x else none)=some i:=h2
 by_cases hg:g=f
 ·rw [if_pos hg] at h3
  subst hg
  obtain⟨⟨x,p⟩,h4,h5⟩:=zBd h3
  cases aM h4
  refine⟨x,p,q, ?_,h5⟩
  cases e<;>first | (cases h1;rfl) | (cases h1;done)
 ·rw [if_neg hg] at h3
  cases h3
theorem lG {C:SK.Ctx} {e:Expr} {i:Nat} {b:Bool} (h:aF5 C e=some (i,b)): ∃ x p q,e= .Attribute (.Name x p) (if b then "done" else "undone") q/\loc C x=some i:=by
 unfold aF5 at h
 split at h
 ·rename_i j hj
  cases h
  exact f8 hj
 ·obtain⟨j,h1,h2⟩:=zMd h
  cases h2
  exact f8 h1
theorem oZ {es:List Expr} {cp:Pos} {env:PySem.Env} (hs: ∀ e∈es,fZ e) (hl:es.length<20):methodCallForm (es.length+([]:List Keyword).length) (backTo cp (starEach es env)) (backToKw cp (keywordEach [] env))=true:=by
 have all: ∀ es:List Expr,(∀ e∈es,fZ e)->(backTo cp (starEach es env)).all (!·.1)=true/\(backTo cp (starEach es env)).any (·.1)=false:=by
  intro es
  induction es with
  | nil=>intro _;exact⟨rfl,rfl⟩
  | cons e es ih=>
   intro hs
   obtain⟨a,b⟩:=ih fun e he=>hs e (.tail _ he)
   rw [aJ (hs e (.head _))]
   exact⟨a,b⟩
 unfold methodCallForm
 rw [(all es hs).1]
 show(true&&true&&decide (es.length+0+0<30))=true
 simp
 omega
theorem lH {es:List Expr} {cp:Pos} {env:PySem.Env} (hs: ∀ e∈es,fZ e):(backTo cp (starEach es env)).any (·.1)=false:=by
 induction es with
 | nil=>rfl
 | cons e es ih=>
  rw [aJ (hs e (.head _))]
  exact ih fun e he=>hs e (.tail _ he)
theorem aMd {X:Cx} {x:Str} {p pos ap cp:Pos} {e:Expr} (h:fZ e) (hl:(ap.endLine==cp.line)=true):M1 X (.Attribute (.Name x p) "held" pos) "get" ap e cp:=by
 refine⟨rfl, ?_,hl, ?_⟩
 ·rw [aJ h];rfl
 ·rw [aJ h];rfl
theorem v9 (hE:v8 ad n) (O:CtxOk X ad C) {e:Expr} {f:F} (h:rkE (bA n C) C e=some f):ME X ad e f/\MT X ad e f/\ ∀ op es p,e= .BoolOp op es p->MW X ad e f:=by
 unfold rkE at h
 cases hc:rkc C with
 | none=>rw [hc] at h;cases h
 | some am=>
  obtain⟨A,ms⟩:=am
  rw [hc] at h
  have hcls:aL4 X ad "Rack" (.cls A ms):=by
   unfold rkc at hc
   split at hc
   ·rename_i a' ms' e'
    cases hc
    exact(O.gt _ _ e').2
   ·cases hc
  obtain⟨_,RC,MO⟩:=hcls
  simp only at h
  split at h
  ·rename_i a op cs pos
   have hx:=zBd h
   clear h
   obtain⟨b,h0,h⟩:=hx
   cases bU h0
   unfold aH0 at h
   split at h
   ·rename_i neg hneg
    have hx:=zBd h
    clear h
    obtain⟨i,h1,h⟩:=hx
    obtain⟨g,h2,rfl⟩:=zMd h
    obtain⟨x,p,q,rfl,e1⟩:=f8 h1
    obtain⟨v1,v2,v3,v4⟩:=O.vis x i e1
    have hop:op=if neg then .NotIn else .In:=by
     cases op<;>first | (cases hneg;rfl) | (cases hneg;done)
    subst hop
    have go:=aJh (p:=p) (ap:=q) O.un RC v1 v2 v3 v4 (hE X C _ g O h2).1 neg
    exact⟨aGl go (dD trivial),lE (dD trivial) fun I hG hS hx hr=>go _ _ _ _ _ I ⟨_,_,_,hG,hS,hx,hr⟩,fun _ _ _ z=>nomatch z⟩
   ·have hx:=zBd h
    clear h
    obtain⟨⟨i,bb⟩,h1,h⟩:=hx
    obtain⟨g,h2,rfl⟩:=zMd h
    obtain⟨x,p,q,rfl,e1⟩:=lG h1
    obtain⟨v1,v2,v3,v4⟩:=O.vis x i e1
    have la:=(aBl (ad:=ad) (p:=p) (pos:=q) RC v1 v2 v3 v4 bb).lk
    have lb:=(hE X C _ g O h2).1.look
    have m:=(aI h2).2.1
    exact⟨vQ O.un la lb (dD m),vR O.un la lb (dD m),fun _ _ _ z=>nomatch z⟩
  ·rename_i a b pos
   have hx:=zBd h
   clear h
   obtain⟨i,h1,h⟩:=hx
   obtain⟨g,h2,rfl⟩:=zMd h
   obtain⟨x,p,q,rfl,e1⟩:=f8 h1
   obtain⟨v1,v2,v3,v4⟩:=O.vis x i e1
   exact oY (aEj O.un RC v1 v2 v3 v4 (hE X C _ g O h2).1 (qP (aI h2).2.2)) (fun _=>rfl) (fun _ _ _ z=>nomatch z)
  ·rename_i fe as kws cp
   split at h
   ·rename_i hk
    cases List.isEmpty_iff.mp hk
    split at h
    ·rename_i o m ap
     split at h
     ·rename_i hl
      unfold aH1 at h
      split at h
      ·rename_i x p hv
       cases aM hv
       have hx:=zBd h
       clear h
       obtain⟨i,h1,h⟩:=hx
       have hx:=zBd h
       clear h
       obtain⟨⟨n0,M⟩,h2,h⟩:=hx
       obtain⟨v1,v2,v3,v4⟩:=O.vis x i h1
       simp only at h
       split at h
       ·rename_i hlen
        have hx:=zBd h
        clear h
        obtain⟨fs,h3,h⟩:=hx
        split at h
        ·rename_i hn
         cases h
         obtain⟨ma,ns⟩:=oX hE O h3
         exact oY (aJj RC (MO m n0 M h2) v1 v2 v3 v4 ma hn (fun a r e=>by
          subst e
          exact⟨aJ (ns a (.head _)),lH fun e he=>ns e (.tail _ he)⟩) (eY h3).symm (oZ ns hlen) hl) (fun _=>rfl) (fun _ _ _ z=>nomatch z)
        ·cases h
       ·cases h
      ·split at h
       ·rename_i hm
        subst hm
        have hx:=zBd h
        clear h
        obtain⟨i,h1,h⟩:=hx
        have hx:=zBd h
        clear h
        obtain⟨a,h0,h⟩:=hx
        cases bU h0
        obtain⟨g,h2,rfl⟩:=zMd h
        obtain⟨x,p,q,rfl,e1⟩:=f8 h1
        obtain⟨v1,v2,v3,v4⟩:=O.vis x i e1
        exact oY (aEk O.un RC v1 v2 v3 v4 (hE X C _ g O h2).1 (aMd (aI h2).1 hl)) (fun _=>rfl) (fun _ _ _ z=>nomatch z)
       ·cases h
     ·cases h
    ·rename_i x p
     have hx:=zBd h
     clear h
     obtain⟨a,h0,h⟩:=hx
     cases bU h0
     unfold aNt at h
     split at h
     ·rename_i eg
      obtain⟨i,h1,rfl⟩:=zMd h
      obtain⟨y,py,q,rfl,e1⟩:=f8 h1
      obtain⟨v1,v2,v3,v4⟩:=O.vis y i e1
      obtain⟨g1,g2,g3,g4⟩:=O.gl eg
      cases (show x="sorted" from g3)
      exact oY (aEm O.calm RC g1 g4 v1 v2 v3 v4) (fun _=>rfl) (fun _ _ _ z=>nomatch z)
     ·rename_i eg
      have hx:=zMd h
      clear h
      obtain⟨⟨i,bb⟩,h1,rfl⟩:=hx
      obtain⟨y,py,q,rfl,e1⟩:=lG h1
      obtain⟨v1,v2,v3,v4⟩:=O.vis y i e1
      obtain⟨g1,g2,g3,g4⟩:=O.gl eg
      cases (show x="len" from g3)
      exact oY (iS uA g1 g4 (by decide+kernel) (aBl RC v1 v2 v3 v4 bb) (by decide) g2 rfl) (fun _=>rfl) (fun _ _ _ z=>nomatch z)
     ·cases h
    ·cases h
   ·cases h
  ·cases h
theorem aMe (hE:v8 ad n) (hL:aF8 ad n) (hI:aJm ad n):v8 ad (n+1):=by
 intro X C e f O h
 unfold bA at h
 split at h
 ·-- a name
  rename_i x pos
  refine oY ?_ (fun _=>rfl) (fun _ _ _ z=>nomatch z)
  cases e1:loc C x with
  | some i=>
   rw [e1] at h
   cases h
   obtain⟨v1,v2,v3,v4⟩:=O.vis x i e1
   exact tW v1 v2 v3 v4
  | none=>
   rw [e1] at h
   simp only at h
   split at h
   ·rename_i d e2
    cases h
    obtain⟨g1,g2,u,v,g3,g4,g5⟩:=O.gl e2
    exact tY g1 g3 g4 g5 g2
   ·rename_i k0 n0 f0 e2
    cases h
    obtain⟨g1,g2,r,f,T,hr,hf⟩:=O.gl e2
    subst hf
    exact tY (v:= .ref (ad.fnA k0)) g1 T.mg rfl (fun G=>by unfold Rep;rfl) g2
   ·cases h
 ·obtain⟨d,h1,rfl⟩:=zMd h
  exact oY (x8 h1) (fun _=>rfl) (fun _ _ _ z=>nomatch z)
 ·obtain⟨fa,h1,h⟩:=zBd h
  obtain⟨fb,h2,rfl⟩:=zMd h
  exact oY (aH7 (hE X C _ fa O h1).1 (hE X C _ fb O h2).1) (fun _=>rfl) (fun _ _ _ z=>nomatch z)
 ·obtain⟨fa,h1,h⟩:=zBd h
  obtain⟨q1,q2,_⟩:=hE X C _ fa O h1
  split at h
  ·cases h;exact⟨aH8 q1,aIe q2,fun _ _ _ z=>nomatch z⟩
  ·cases h;exact oY (aH9 q1) (fun _=>rfl) (fun _ _ _ z=>nomatch z)
  ·cases h
 ·rename_i op es pos
  split at h
  ·rename_i a b
   obtain⟨fa,h1,h⟩:=zBd h
   obtain⟨fb,h2,rfl⟩:=zMd h
   obtain⟨q1,q2,_⟩:=hE X C _ fa O h1
   obtain⟨r1,r2,_⟩:=hE X C _ fb O h2
   cases op with
   | And=>
    have W:MW X ad (.BoolOp .And [a,b] pos) (fI fa fb):=aA4 q2 (aA5 r2)
    exact⟨aA2 q1 (aA3 r1),zK W,fun _ _ _ _=>W⟩
   | Or=>
    have W:MW X ad (.BoolOp .Or [a,b] pos) (rOr fa fb):=aIg q2 (aA5 r2)
    exact⟨aIb q1 (aA3 r1),zK W,fun _ _ _ _=>W⟩
  ·rename_i a b c r
   obtain⟨fa,h1,h⟩:=zBd h
   obtain⟨fb,h2,rfl⟩:=zMd h
   obtain⟨q1,q2,_⟩:=hE X C _ fa O h1
   obtain⟨r1,r2,r3⟩:=hE X C _ fb O h2
   cases op with
   | And=>
    have W:MW X ad (.BoolOp .And (a::b::c::r) pos) (fI fa fb):=aA4 q2 (r3 _ _ _ rfl)
    exact⟨aA2 q1 r1,zK W,fun _ _ _ _=>W⟩
   | Or=>
    have W:MW X ad (.BoolOp .Or (a::b::c::r) pos) (rOr fa fb):=aIg q2 (r3 _ _ _ rfl)
    exact⟨aIb q1 r1,zK W,fun _ _ _ _=>W⟩
  ·cases h
 ·split at h
  ·rename_i fr hfr
   cases h
   exact v9 hE O hfr
  rename_i hno_
  clear hno_
  split at h
  ·have hx:=zBd h
   clear h
   obtain⟨b,h0,h⟩:=hx
   cases bU h0
   obtain⟨fa,h1,h⟩:=zBd h
   have look: ∀ {e:Expr} {g:F},(if bsN C e=true then sK n C e else bA n C e)=some g->MLk X ad e g/\j6 e:=fun {e g} h=>by
    split at h
    ·exact⟨(hL X C _ g O h).lk,(bV h).2⟩
    ·exact⟨(hE X C _ g O h).1.look,(aI h).2.1⟩
   have la:=(look h1).1
   split at h
   ·rename_i i hi
    cases h
    obtain⟨x,p,rfl,e1⟩:=aJl hi
    obtain⟨v1,v2,v3,v4⟩:=O.vis x i e1
    exact⟨aI9 v1 v2 v3 v4 O.un la (dD trivial),aJa v1 v2 v3 v4 O.un la (dD trivial),fun _ _ _ z=>nomatch z⟩
   ·obtain⟨fb,h2,rfl⟩:=zMd h
    obtain⟨lb,m⟩:=look h2
    exact⟨vQ O.un la lb (dD m),vR O.un la lb (dD m),fun _ _ _ z=>nomatch z⟩
  ·have hx:=zBd h
   clear h
   obtain⟨⟨b,c⟩,h0,h⟩:=hx
   cases mZ h0
   obtain⟨fa,h1,h⟩:=zBd h
   obtain⟨fb,h2,h⟩:=zBd h
   obtain⟨fc,h3,rfl⟩:=zMd h
   exact⟨x9 O.un (hE X C _ fa O h1).1 (hE X C _ fb O h2).1 (hE X C _ fc O h3).1 (m7 (aI h3).2.1),yA O.un (hE X C _ fa O h1).1 (hE X C _ fb O h2).1 (hE X C _ fc O h3).1 (m7 (aI h3).2.1),fun _ _ _ z=>nomatch z⟩
  ·cases h
 ·obtain⟨fc,h1,h⟩:=zBd h
  obtain⟨fa,h2,h⟩:=zBd h
  obtain⟨fb,h3,rfl⟩:=zMd h
  obtain⟨_,c2,_⟩:=hE X C _ fc O h1
  obtain⟨a1,a2,_⟩:=hE X C _ fa O h2
  obtain⟨b1,b2,_⟩:=hE X C _ fb O h3
  exact⟨yB c2 a1 b1,yR c2 a2 b2,fun _ _ _ z=>nomatch z⟩
 ·split at h
  ·rename_i hl
   obtain⟨fs,h1,rfl⟩:=zMd h
   exact oY (aIh (oX hE O h1).1 (by rw [eY h1];exact hl)) (fun _=>rfl) (fun _ _ _ z=>nomatch z)
  ·cases h
 ·split at h
  ·rename_i hl
   obtain⟨fs,h1,rfl⟩:=zMd h
   exact oY (aIi (oX hE O h1).1 (by rw [eY h1];exact hl)) (fun _=>rfl) (fun _ _ _ z=>nomatch z)
  ·cases h
 ·-- o[..]
  rename_i a b pos
  split at h
  ·rename_i fr hfr
   cases h
   exact v9 hE O hfr
  rename_i hno_
  clear hno_
  have hx:=zBd h
  clear h
  obtain⟨fa,h1,h⟩:=hx
  split at h
  ·rename_i lo hi hv
   obtain⟨p,rfl⟩:=v7 hv
   obtain⟨fl,h2,h⟩:=zBd h
   obtain⟨fh,h3,rfl⟩:=zMd h
   refine oY (aIk (hL X C _ fa O h1).lk ?_ ?_) (fun _=>rfl) (fun _ _ _ z=>nomatch z)
   ·split at h2
    ·cases h2;trivial
    ·obtain⟨k,h4,rfl⟩:=zMd h2
     exact(hE X C _ k O h4).1
   ·split at h3
    ·cases h3;trivial
    ·obtain⟨k,h4,rfl⟩:=zMd h3
     exact(hE X C _ k O h4).1
  ·obtain⟨fb,h2,rfl⟩:=zMd h
   exact oY (aL1 (hL X C _ fa O h1).lk (hE X C _ fb O h2).1 (qP (aI h2).2.2)) (fun _=>rfl) (fun _ _ _ z=>nomatch z)
 ·-- a comprehension
  rename_i elt gens sc pos
  refine oY ?_ (fun _=>rfl) (fun _ _ _ z=>nomatch z)
  split at h
  ·rename_i tg it ifs as
   split at h
   ·rename_i ha
    subst ha
    obtain⟨xs,k,cs,fi,fc,fe,rfl,S,hi,hset,hxs,hg,hts,he⟩:=j7 (pos:=pos) hE hI O h
    exact aDh O.calm S hi hset hxs hg hts he
   ·cases h
  ·cases h
 ·-- a call
  rename_i f' as kws pos
  split at h
  ·rename_i fr hfr
   cases h
   exact v9 hE O hfr
  rename_i hno_
  clear hno_
  refine oY ?_ (fun _=>rfl) (fun _ _ _ z=>nomatch z)
  split at h
  ·rename_i hkw
   cases dH hkw
   split at h
   ·rename_i x np
    split at h
    ·cases h
    ·split at h
     ·rename_i k1 k2 fn e2
      by_cases hem:as.isEmpty=true
      ·rw [if_pos hem] at h;cases h
      rw [if_neg hem] at h
      obtain⟨fs,h1,h⟩:=zBd h
      split at h
      ·rename_i hk
       cases h
       obtain⟨g1,g2,r,fa,T,hr,_⟩:=O.gl e2
       obtain⟨q1,q2⟩:=oX hE O h1
       cases as with
       | nil=>exact absurd rfl hem
       | cons a es=>exact aDe T hr g1 g2 q1 hk (aJ (q2 a (.head _))) (qQ fun e he=>q2 e (.tail _ he))
      ·cases h
     ·rename_i p e2
      exact aMc hE hL O e2 h
     ·cases h
   ·cases h
  ·cases h
 ·cases h
theorem aMf (hE:v8 ad n):aF8 ad (n+1):=by
 intro X C e f O h
 unfold sK at h
 split at h
 ·rename_i x p
  cases e1:loc C x with
  | some i=>
   rw [e1] at h
   cases h
   obtain⟨v1,v2,v3,v4⟩:=O.vis x i e1
   exact t6 v1 v2 v3 v4
  | none=>
   rw [e1] at h
   exact(hE X C _ f O h).1.ml
 ·exact(hE X C _ f O h).1.ml
theorem aEn (hE: ∀ m,m<n->v8 ad m) {X:Cx} {C:SK.Ctx} {e:Expr} {f:F} (O:CtxOk X ad C) (hn: ∀ x p,e≠ .Name x p) (h:sK n C e=some f):ME X ad e f:=by
 cases n with
 | zero=>cases h
 | succ n=>
  have:bA n C e=some f:=by
   rw [<-h]
   cases e<;>first | rfl | exact absurd rfl (hn _ _)
  exact(hE n (Nat.lt_succ_self _) X C e f O this).1
theorem aMg (hE: ∀ m,m<n+1->v8 ad m) (hL:aF8 ad n):aJm ad (n+1):=by
 intro X C tg e tt f O htt h
 have hEn:=hE n (Nat.lt_succ_self _)
 unfold aCx at h
 have it: ∀ {x:Str} {as:List Expr} {np q:Pos},tR (bA n C) C tt x as=some f->MI X ad tg (.Call (.Name x np) as [] q) f/\MIG X ad tg (.Call (.Name x np) as [] q) f:=by
  intro x as np q h
  unfold tR at h
  split at h
  ·rename_i a eg
   obtain⟨fa,h1,rfl⟩:=zMd h
   obtain⟨g1,g2,g3,g4⟩:=O.gl eg
   subst g3
   have me:=(hEn X C _ fa O h1).1
   exact⟨yH g1 g4 me (aJ (aI h1).1),uO g1 g4 me (aJ (aI h1).1)⟩
  ·rename_i a b eg
   split at h
   ·rename_i ht
    obtain⟨fa,h1,h⟩:=zBd h
    obtain⟨fb,h2,rfl⟩:=zMd h
    obtain⟨g1,g2,g3,g4⟩:=O.gl eg
    subst g3
    obtain⟨es,k,p,rfl⟩:=htt ht
    have ma:=(hEn X C _ fa O h1).1
    have mb:=(hEn X C _ fb O h2).1
    exact⟨aIy g1 g4 ma mb (aJ (aI h1).1) (aJ (aI h2).1),aD1 g1 g4 ma mb (aJ (aI h1).1) (aJ (aI h2).1)⟩
   ·cases h
  ·rename_i a eg
   split at h
   ·rename_i ht
    obtain⟨fa,h1,rfl⟩:=zMd h
    obtain⟨g1,g2,g3,g4⟩:=O.gl eg
    subst g3
    obtain⟨es,k,p,rfl⟩:=htt ht
    have ma:=(hEn X C _ fa O h1).1
    exact⟨aD2 g1 g4 ma (aJ (aI h1).1),yQ g1 g4 ma (aJ (aI h1).1)⟩
   ·cases h
  ·cases h
 split at h
 ·rename_i f' as kws q
  split at h
  ·rename_i x p
   split at h
   ·exact⟨(it h).1,fun _=>(it h).2⟩
   ·exact⟨(it h).1,fun _=>(it h).2⟩
   ·exact⟨(it h).1,fun _=>(it h).2⟩
   ·have me:=(hEn X C _ f O h).1
    exact⟨p5 me.ml,fun _=>kX me⟩
  ·have me:=(hEn X C _ f O h).1
   exact⟨p5 me.ml,fun _=>kX me⟩
 ·split at h
  ·rename_i i hi
   cases h
   obtain⟨x,p,rfl,e1⟩:=aJk hi
   obtain⟨v1,v2,v3,v4⟩:=O.vis x i e1
   exact⟨aEc v1 v2 v3 v4,fun hn=>absurd rfl (hn x p)⟩
  ·refine⟨p5 (hL X C _ f O h),fun hn=>kX (aEn (fun m hm=>hE m (by omega)) O hn h)⟩
theorem dQ: ∀ n,v8 ad n/\aF8 ad n/\aJm ad n:=by
 have main: ∀ n, ∀ m,m<=n->v8 ad m/\aF8 ad m/\aJm ad m:=by
  intro n
  induction n with
  | zero=>
   intro m hm
   have:m=0:=by omega
   subst this
   refine⟨?_, ?_, ?_⟩
   ·intro X C e f O h
    unfold bA at h
    cases h
   ·intro X C e f O h
    unfold sK at h
    cases h
   ·intro X C tg e tt f O _ h
    unfold aCx at h
    cases h
  | succ n ih=>
   intro m hm
   by_cases hmn:m<=n
   ·exact ih m hmn
   ·have:m=n+1:=by omega
    subst this
    obtain⟨a,b,c⟩:=ih n (aj _)
    exact⟨aMe a b c,aMf a,aMg (fun m hm=>(ih m (by omega)).1) b⟩
 exact fun n=>main n n (aj _)
end
noncomputable abbrev aKu:List Value:=[.type "ValueError", .type "Exception", .type "BaseException", .type "object"]
structure StOk (X:Cx) (ad:Ad) (C:SK.Ctx):Prop where
 cx:CtxOk X ad C
 fn: ∀ x,X.fn x=true
 sc:X.env.scope=C.sc
 lc: ∀ x i,loc C x=some i->Loc X.env.scope x
 exm: ∀ c,exmOne X.K (.ref (ad.cls c)) (.ref (ad.cls 0))=some true
 exi: ∀ c,excIn X.K (ad.cls c) aKu "ValueError.__new__"=true
noncomputable def Zt (ad:Ad) (E₀:XK) (t:Bool):(St->Nat->Hp->Prop)->Prop:=fun E=>t=false-> ∀ σ c H,E σ c H->E₀ (.ref (ad.cls c)) none H
section
variable {X:Cx} {ad:Ad} {C:SK.Ctx} {E₀:XK} {t:Bool} {e it tg:Expr} {f:F} {g h:FS} {x:Str} {i:Nat} {pos pos':Pos} {st:Stmt}
theorem StOk.nm (O:StOk X ad C) (h:loc C x=some i):aKq X x i:=⟨(O.cx.vis x i h).1,O.lc x i h, .inl (O.fn x)⟩
theorem StOk.nms (O:StOk X ad C): ∀ {xs:List Str} {is:List Nat},dO (fun x=>loc C x) xs=some is->NmsOk X xs is
 | [],_,h=>by cases h;exact .nil
 | x::xs,is,h=>by
  unfold dO at h
  cases e:loc C x with
  | none=>rw [e] at h;cases h
  | some j=>
   rw [e] at h
   obtain⟨r,h1,h2⟩:=zMd h
   subst h2
   exact .cons (O.nm e) (O.nms h1)
theorem sF {elt:Expr} {gens:List Comprehension} {sc:Scope} {cpos:Pos} {line:Nat} {env:PySem.Env}: ∃ b,swapsWith (.ListComp elt gens sc cpos) (some (.Name x pos')) line env=pure b:=⟨_,rfl⟩
theorem wA (O:StOk X ad C) (h:bA 50 C e=some f) (hi:loc C x=some i):PS X (.Assign [.Name x pos'] e pos) (aB8 (tE X ad f) (iE i)):=by
 obtain⟨h1,h2,h3⟩:=dQ (ad:=ad) 49
 obtain⟨k1,_,_⟩:=dQ (ad:=ad) 50
 have nm:=O.nm hi
 have me:=(k1 X C e f O.cx h).1
 by_cases hc: ∃ elt gens sc cpos,e= .ListComp elt gens sc cpos
 ·obtain⟨elt,gens,sc,cpos,rfl⟩:=hc
  obtain⟨b,hb⟩:=sF (x:=x) (pos':=pos') (elt:=elt) (gens:=gens) (sc:=sc) (cpos:=cpos) (line:=pos.line) (env:=X.env)
  cases b with
  | false=>exact jN O.cx.nd nm.1 nm.2.1 me hb nm.2.2
  | true=>
   have hgen: ∃ tg it ifs,gens=[⟨tg,it,ifs,0⟩]:=by
    unfold bA at h
    simp only at h
    split at h
    ·rename_i tg it ifs as
     split at h
     ·rename_i ha
      subst ha
      exact⟨_,_,_,rfl⟩
     ·cases h
    ·cases h
   obtain⟨tg,it,ifs,rfl⟩:=hgen
   obtain⟨xs,k,cs,fi,fc,fe,rfl,S,hi',hset,hxs,hg,hts,he⟩:=j7 h1 h3 O.cx h
   exact aDw O.cx.nd nm O.cx.calm S hi' hset hxs hg hts he hb
 ·refine jN O.cx.nd nm.1 nm.2.1 me ?_ nm.2.2
  have nf:=aI h
  cases e<;>first | rfl | exact absurd ⟨_,_,_,_,rfl⟩ hc | (unfold bA at h;cases h;done)
theorem aEo {e:Expr} (h:aLu e=true): ∃ p,e= .Dict [] [] p:=by
 cases e<;>try (cases h;done)
 rename_i ks vs p
 have h':(ks.isEmpty&&vs.isEmpty)=true:=h
 rw [av,List.isEmpty_iff,List.isEmpty_iff] at h'
 exact⟨p,by rw [h'.1,h'.2]⟩
theorem aEp {Z:(St->Nat->Hp->Prop)->Prop} (P:PS X st (aB8 (tE X ad f) (iE i))):MS X ad Z st (g0 i f):=by
 refine PS.imp P ?_
 rintro D' σ H ⟨G₀,G,ρ,E,S,hx,hr⟩
 exact dB S hx hr fun v d G1 H1 st r k=>k _ G1 H1 ((S.step st).set r)
theorem aEq {Z:(St->Nat->Hp->Prop)->Prop} (P:PS X st (aB8 (tE X ad f) (iE i))):MS X ad Z st (iP i f):=by
 refine PS.imp P ?_
 rintro D' σ H ⟨G₀,G,ρ,E,S,hx,hr⟩
 exact aA9 S hx hr
noncomputable def aJn (K:PySem.W.Frag) (n:Nat) (t:TGs):TG:=fun v σ H Q=> ∃ a xs,v= .ref a/\SqL K H a xs/\xs.length=n/\t xs σ H Q
theorem aEr {es:List Expr} {k:Nat} {t:TGs} {n:Nat} (hc:X.calm=true) (h:PGs X es t) (hn:(assignEach es X.env).length=n) (hst:(assignEach es X.env).findIdx? (·.1)=none):PG X (.Tuple es k pos) (aJn X.K n t):=by
 intro pins s σ H v u Q I r hw
 obtain⟨a,xs,e1,hq,hl,hw⟩:=hw
 subst e1
 cases r
 obtain⟨its,rv,ht,hz⟩:=I.list hq
 have hlen:its.toArray.size=n:=by simp [<-hl,rv.length]
 rw [assign_Tuple]
 refine aa (wpAny_standAt ?_)
 unfold unpack
 rw [hn,hst, <-hlen]
 refine aa (wpAny_holding (kun_itemsOf (I.ok.hd hc) ht.isList fun h' hx=> ?_))
 have I1:Inv X pins σ H { s with heap:=h' }:=I.kept (t':=s.toks) fun b o e=>hx b o (bh (ah e)) e
 exact h pins _ σ H xs _ Q I1 (by simpa using rv) hw
theorem aMh {g1 g2:TG} (h1:PG X tg g1) (h2:PG X tg g2):PG X tg (fun v σ H Q=>g1 v σ H Q\/g2 v σ H Q):=by
 intro pins s σ H v u Q I r h
 rcases h with h | h
 ·exact h1 pins s σ H v u Q I r h
 ·exact h2 pins s σ H v u Q I r h
theorem wB {Z:(St->Nat->Hp->Prop)->Prop} {es:List Expr} {k j:Nat} {tp:Pos} {xs:List Str} {is:List Nat} (O:StOk X ad C) (he:ME X ad e f) (hs:swapsWithSole [.Tuple es j tp] e pos.line X.env=pure false) (hw:swappedStores [.Tuple es j tp] e X.env=pure none) (ht:bR (.Tuple es j tp)=some (xs,k)) (hn:NmsOk X xs is):MS X ad Z (.Assign [.Tuple es j tp] e pos) (jI is f):=by
 obtain⟨P,hk⟩:=aDt O.cx.calm O.cx.nd ht hn
 have k0:k≠0:=by
  unfold bR at ht
  obtain⟨ys,e1,e2⟩:=zBd ht
  by_cases hl:2<=ys.length
  ·rw [if_pos hl] at e2
   cases e2
   omega
  ·rw [if_neg hl] at e2
   cases e2
 have hb:(k==0)=false:=by simpa using k0
 have PL:PG X (.Tuple es j tp) (aJn X.K is.length (gIs is)):=by
  unfold bR at ht
  obtain⟨ys,e1,e2⟩:=zBd ht
  by_cases hl:2<=ys.length
  ·rw [if_pos hl] at e2
   cases e2
   obtain⟨q1,q2⟩:=gO (X:=X) e1
   exact aEr O.cx.calm (uP O.cx.nd e1 hn) (by rw [q1,hn.len]) q2
  ·rw [if_neg hl] at e2
   cases e2
 refine PS.imp (sR he (aMh P PL) hs hw rfl) ?_
 rintro D' σ H ⟨G₀,G,ρ,E,S,hx,hr⟩
 unfold jI at hr
 refine dB S hx hr fun v d G1 H1 st r q=> ?_
 cases d<;>try exact az q
 case lst ds=>
  have q':OKo X ad G₀ (if ds.length=is.length then .nx (setN is ds ρ) else .rt .bad) D' E:=q
  by_cases hl:ds.length=is.length
  ·rw [if_pos hl] at q'
   unfold Rep at r
   obtain⟨a,vs,rfl,hq,rq⟩:=r
   exact .inr ⟨a,vs,rfl,st.gh.seq hq,by rw [rq.length,hl],p6 (by rw [rq.length,hl]) (q' _ G1 H1 ((S.step st).setN rq))⟩
  ·rw [if_neg hl] at q'
   exact q'.elim
 rename_i ds
 refine .inl ?_
 have q':OKo X ad G₀ (if ds.length=is.length then .nx (setN is ds ρ) else .rt .bad) D' E:=q
 by_cases hl:ds.length=is.length
 ·rw [if_pos hl] at q'
  refine aBa (ρ1:=setN is ds ρ) hk ?_ (S.step st) r fun σ1 S1=>q' σ1 G1 H1 S1
  rw [hb]
  have e0:tN is false (.tup ds) ρ=if ds.length=is.length then some (setN is ds ρ) else none:=by
   cases is with
   | nil=>rfl
   | cons _ _=>rfl
  rw [e0,if_pos hl]
 ·rw [if_neg hl] at q'
  exact q'.elim
theorem gX {env:PySem.Env} {x y:Str} {px py pt pt2:Pos} {a b:Expr} {kt k2:Nat} {p q:Prop} (h:((env.scope.names.lookup x=some .cell\/env.scope.names.lookup y=some .cell)/\p)/\q):swappedStores [.Tuple [.Name x px, .Name y py] kt pt] (.Tuple [a,b] k2 pt2) env=pure none:=by
 unfold swappedStores
 have kx:env.kindOf x=env.scope.names.lookup x:=rfl
 have ky:env.kindOf y=env.scope.names.lookup y:=rfl
 rcases h.1.1 with e | e
 ·simp [kx,ky,e,List.filterMap,Expr.pos]
  intro _ _ _ h2
  exfalso;revert h2
  (repeat' split)<;>simp
 ·simp [kx,ky,e,List.filterMap,Expr.pos]
  intro _ _ _ h2
  exfalso;revert h2
  (repeat' split)<;>simp
theorem o0 {env:PySem.Env} {x y:Str} {px py pt pt2:Pos} {a b:Expr} {kt k2:Nat} (hb:env.scope.kind= .function) (hx:env.scope.names.lookup x=some .local) (hy:env.scope.names.lookup y=some .local) (hne:x≠y) (hl:px.line=py.line)
  (sa:fZ a) (sb:fZ b) (h1:[a,b].all (foldedForSure 8)=false) (h2:[a,b].all (constantsAlone 8)=false):swappedStores [.Tuple [.Name x px, .Name y py] kt pt] (.Tuple [a,b] k2 pt2) env=pure (some [x,y]):=by
 have hbk:env.blockKind= .function:=by unfold PySem.Env.blockKind;rw [hb];rfl
 have kx:env.kindOf x=some .local:=hx
 have ky:env.kindOf y=some .local:=hy
 have nd:[x,y].eraseDups.length=2:=by
  have:(y==x)=false:=by simpa using fun z=>hne z.symm
  simp [List.eraseDups_cons,this]
 have h1': ¬ (foldedForSure 8 a=true/\foldedForSure 8 b=true):=fun⟨p,q⟩=>by simp [p,q] at h1
 have h2': ¬ (constantsAlone 8 a=true/\constantsAlone 8 b=true):=fun⟨p,q⟩=>by simp [p,q] at h2
 unfold swappedStores
 simp [Expr.pos,kx,ky, <-hl,hbk,nd,h1',h2',List.filterMap]
 intro h
 rcases h with h | h
 ·cases a<;>first | exact sa.elim | cases h
 ·cases b<;>first | exact sb.elim | cases h
theorem zL {i j:Nat} {fa fb:F} {ρ:Rho}:jI [i,j] (jH [fa,fb]) ρ=fQ ρ (fa ρ) fun x=>fQ ρ (fb ρ) fun y=> .nx ((ρ.set i (.sh x)).set j (.sh y)):=by
 unfold jI jH nH args args args
 cases fa ρ<;>simp [fQ,RA.then]<;>cases fb ρ<;>simp [RA.cons,setN]
theorem aJo {Z:(St->Nat->Hp->Prop)->Prop} {a b:Expr} {fa fb:F} {i j kt k2:Nat} {y:Str} {px py pt pt2:Pos} (O:StOk X ad C) (ha:ME X ad a fa) (hb:ME X ad b fb) (sa:fZ a) (sb:fZ b) (hi:loc C x=some i) (hj:loc C y=some j) (ok:aCy C x y px py a b=true):
  MS X ad Z (.Assign [.Tuple [.Name x px, .Name y py] kt pt] (.Tuple [a,b] k2 pt2) pos) (jI [i,j] (jH [fa,fb])):=by
 unfold aCy at ok
 simp only [av,Bool.not_eq_true'] at ok
 obtain⟨⟨⟨⟨⟨⟨⟨o1,o2⟩,o3⟩,o4⟩,o5⟩,o6⟩,_⟩,_⟩:=ok
 have l1:X.env.scope.names.lookup x=some .local:=by rw [O.sc];exact bL o1
 have l2:X.env.scope.names.lookup y=some .local:=by rw [O.sc];exact bL o2
 have hne:x≠y:=by simpa using o3
 have nx:=(O.cx.vis x i hi).1
 have ny:=(O.cx.vis y j hj).1
 have hij:i≠j:=fun z=>by subst z;rw [nx] at ny;exact hne (Option.some.inj ny)
 intro pins s σ H D' I ⟨G₀,G,ρ,E,S,hx,hr⟩
 refine aGz (ta:=iJ (tE X ad fa) (iJ (tE X ad fb) xP)) O.cx.calm O.cx.nd nx ny hij l1 l2 (bE ha (bE hb cL (aJ sb)) (aJ sa)) (o0 I.ok.kind l1 l2 hne (by simpa using o4) sa sb o5 o6) rfl pins s σ H D' I ?_
 rw [zL] at hr
 show tE X ad fa σ H fun v H1=>tE X ad fb σ H1 fun w H2=> ∃ v' w',[v,w]=[v',w']/\D'.nx ((σ.set i (some v')).set j (some w')) H2
 exact dB S hx hr fun v d G1 H1 st r k=>dB (S.step st) hx k fun w d2 G2 H2 st2 r2 k2=>⟨v,w,rfl,k2 _ G2 H2 ((((S.step st).step st2).set (r.mono st2.sg)).set r2)⟩
theorem aEs {op:Operator} (h:aNu op=true):op= .Add:=by
 cases op<;>first | rfl | (cases h;done)
theorem wC {op:Operator} (h:aA0 op=true):op= .Add\/op= .Sub:=by
 cases op<;>first | exact .inl rfl | exact .inr rfl | (cases h;done)
theorem aKv {pins:List (Addr×Obj)} {D':Ends} {hd:ExceptHandler} (O:StOk X ad C):StOk (tX X pins D' hd) ad C:=by
 refine⟨⟨O.cx.N,O.cx.nd,O.cx.vis,O.cx.gk,fun x g e=> ?_,O.cx.cap,O.cx.calm,O.cx.un,O.cx.hd,O.cx.exc,O.cx.kin,O.cx.kve,fun j n F e=>let ⟨r,T,hr⟩:=O.cx.fnv j n F e;⟨r,⟨T.kp,T.ok⟩,hr⟩⟩,O.fn,O.sc,O.lc,O.exm,O.exi⟩
 obtain⟨e1,e2⟩:=O.cx.gt x g e
 refine⟨e1, ?_⟩
 cases g with
 | fn k n F=>
  obtain⟨r,f,T,hr,hf⟩:=e2
  exact⟨r,f,⟨T.mg,T.kp,T.ok⟩,hr,hf⟩
 | exc c=>exact e2
 | verr=>exact e2
 | val d=>exact e2
 | py p=>exact e2
 | cls A ms=>exact⟨e2.1,e2.2.1,fun m n M hm=>let z:=e2.2.2 m n M hm;⟨z.no,z.ok⟩⟩
theorem wD {es:List Expr} {e a b:Expr} {x y:Str} {px py:Pos} (h:aKo es e=some ⟨x,px,y,py,a,b⟩): ∃ k p,es=[.Name x px, .Name y py]/\e= .Tuple [a,b] k p:=by
 unfold aKo at h
 obtain⟨⟨u,v⟩,h1,h⟩:=zBd h
 obtain⟨⟨x',px'⟩,h2,h⟩:=zBd h
 obtain⟨⟨y',py'⟩,h3,h⟩:=zBd h
 obtain⟨⟨vs,k,p⟩,h4,h⟩:=zBd h
 obtain⟨⟨a',b'⟩,h5,h6⟩:=zMd h
 cases h6
 rw [mZ h1,aM h2,aM h3,oW h4,mZ h5]
 exact⟨k,p,rfl,rfl⟩
theorem qR {e:Expr} (h:aCt e=true): ∃ s k p,e= .Constant (.str s) k p:=by
 cases e<;>try (cases h;done)
 rename_i c k p
 cases c<;>try (cases h;done)
 exact⟨_,k,p,rfl⟩
def aMi (ad:Ad) (E₀:XK) (n:Nat):Prop:= ∀ (X:Cx) (C:SK.Ctx) (t:Bool) (s:Stmt) (g:FS),StOk X ad C->(t=false->DefX X E₀/\PassesOwn (model X.prog X.w) X.A X.env X.xe)->pO n t C s=some g->MS X ad (Zt ad E₀ t) s g
def zM (ad:Ad) (E₀:XK) (n:Nat):Prop:= ∀ (X:Cx) (C:SK.Ctx) (t:Bool) (s:List Stmt) (g:FS),StOk X ad C->(t=false->DefX X E₀/\PassesOwn (model X.prog X.w) X.A X.env X.xe)->jL n t C s=some g->MSs X ad (Zt ad E₀ t) s g
theorem Zt.imp {Z Z':(St->Nat->Hp->Prop)->Prop} (h:MS X ad Z st g) (k: ∀ E,Z' E->Z E):MS X ad Z' st g:=PS.imp h fun D' σ H ⟨G₀,G,ρ,E,S,hx,hr⟩=>⟨G₀,G,ρ,E,S,⟨hx.1,k E hx.2⟩,hr⟩
theorem Zts.imp {Z Z':(St->Nat->Hp->Prop)->Prop} {sts:List Stmt} (h:MSs X ad Z sts g) (k: ∀ E,Z' E->Z E):MSs X ad Z' sts g:=PSs.imp h fun D' σ H ⟨G₀,G,ρ,E,S,hx,hr⟩=>⟨G₀,G,ρ,E,S,⟨hx.1,k E hx.2⟩,hr⟩
theorem aMj {n:Nat} (hS:zM ad E₀ n):aMi ad E₀ (n+1):=by
 intro X C t s g O hd h
 obtain⟨kE,kL,kI⟩:=dQ (ad:=ad) 50
 unfold pO at h
 split at h
 ·cases h;exact aDl
 ·cases h;exact yI
 ·cases h;exact oI
 ·-- return
  split at h
  ·cases h;exact aDn
  ·split at h
   ·rename_i x p hv
    cases aM hv
    split at h
    ·rename_i i e1
     obtain⟨v1,v2,v3,v4⟩:=O.cx.vis x i e1
     split at h
     ·cases h;exact aDo v1 v2 v3 v4
     ·cases h;exact uN (tW v1 v2 v3 v4)
    ·obtain⟨f,h1,rfl⟩:=zMd h
     exact uN (kE X C _ f O.cx h1).1
   ·obtain⟨f,h1,rfl⟩:=zMd h
    exact dS (uN (kE X C _ f O.cx h1).1)
 ·-- an assignment
  rename_i ts e pos
  have hx:=zBd h
  clear h
  obtain⟨tg,h0,h⟩:=hx
  cases bU h0
  split at h
  ·-- x=e
   obtain⟨i,h1,h⟩:=zBd h
   split at h
   ·rename_i hc
    cases h
    rw [av] at hc
    obtain⟨dp,rfl⟩:=aEo hc.1
    have nm:=O.nm h1
    exact aD7 O.cx.nd nm.1 nm.2.1 rfl nm.2.2
   ·obtain⟨f,h2,rfl⟩:=zMd h
    refine dS ?_
    split
    ·exact aEq (wA O h2 h1)
    ·exact aEp (wA O h2 h1)
  ·split at h
   ·-- a,b=x,y
    rename_i x px y py a b hp
    obtain⟨k2,tp2,rfl,rfl⟩:=wD hp
    split at h
    ·rename_i hok
     obtain⟨i,h1,h⟩:=zBd h
     obtain⟨j,h2,h⟩:=zBd h
     obtain⟨fa,h3,h⟩:=zBd h
     obtain⟨fb,h4,rfl⟩:=zMd h
     exact dS (aJo O (kE X C _ fa O.cx h3).1 (kE X C _ fb O.cx h4).1 (aI h3).1 (aI h4).1 h1 h2 hok)
    ·split at h
     ·rename_i hc
      obtain⟨i,h1,h⟩:=zBd h
      obtain⟨j,h2,h⟩:=zBd h
      obtain⟨f,h3,rfl⟩:=zMd h
      have hm:dO (fun x=>loc C x) [x,y]=some [i,j]:=by simp [dO,h1,h2]
      exact dS (wB (xs:=[x,y]) (k:=2) O (kE X C _ f O.cx h3).1 rfl (gX (by rw [O.sc];simpa [kP] using hc)) rfl (O.nms hm))
     ·cases h
   ·-- a,b=e
    obtain⟨u,h0,h⟩:=zBd h
    obtain⟨⟨xs,k⟩,h1,h⟩:=zBd h
    obtain⟨is,h2,h⟩:=zBd h
    split at h
    ·obtain⟨f,h3,rfl⟩:=zMd h
     have hf:tV e=true:=by
      split at h0
      ·assumption
      ·cases h0
     exact dS (wB O (kE X C _ f O.cx h3).1 (by cases e<;>first | rfl | (cases hf;done)) (by cases e<;>first | rfl | (cases hf;done)) h1 (O.nms h2))
    ·cases h
  ·-- x[k]=e
   rename_i o k tp
   have hx:=zBd h
   clear h
   obtain⟨⟨x,p⟩,hv,h⟩:=hx
   cases aM hv
   obtain⟨i,h1,h⟩:=zBd h
   obtain⟨v1,v2,v3,v4⟩:=O.cx.vis x i h1
   split at h
   ·obtain⟨f,h2,h⟩:=zBd h
    obtain⟨g,h3,rfl⟩:=zMd h
    refine dS (aI8 O.cx.un v1 v2 v3 v4 (kE X C _ f O.cx h2).1 (kE X C _ g O.cx h3).1 (fun v=> ?_) ?_ ?_)
    ·have ns:=(aI h3).2.2
     cases k<;>first | rfl | exact absurd rfl (ns _ _ _ _)
    ·cases e<;>rfl
    ·cases e<;>rfl
   ·cases h
  ·cases h
 ·-- x += e
  split at h
  ·rename_i o k tp
   have hx:=zBd h
   clear h
   obtain⟨⟨x,p⟩,hv,h⟩:=hx
   cases aM hv
   obtain⟨i,h1,h⟩:=zBd h
   obtain⟨v1,v2,v3,v4⟩:=O.cx.vis x i h1
   split at h
   ·rename_i hc
    obtain⟨f,h2,h⟩:=zBd h
    obtain⟨g,h3,rfl⟩:=zMd h
    cases aEs (Bool.and_eq_true_iff.mp hc).2
    refine dS (aDv v1 v2 v3 v4 (kE X C _ f O.cx h2).1 (kE X C _ g O.cx h3).1 (fun _ _ _=> ?_))
    have ns:=(aI h3).2.2
    cases k<;>first | rfl | exact absurd rfl (ns _ _ _ _)
   ·cases h
  ·have hx:=zBd h
   clear h
   obtain⟨⟨x,p⟩,hv,h⟩:=hx
   cases aM hv
   obtain⟨u,h0,h⟩:=zBd h
   obtain⟨i,h1,h⟩:=zBd h
   obtain⟨f,h2,rfl⟩:=zMd h
   refine dS (aIv O.cx.nd (O.nm h1) (kE X C _ f O.cx h2).1 ?_)
   split at h0
   ·exact wC ‹_›
   ·cases h0
 ·-- an expression
  split at h
  ·rename_i f' as kws cp
   split at h
   ·rename_i hkw
    cases dH hkw
    split at h
    ·-- x.append(e)
     rename_i o m ap
     have hx:=zBd h
     clear h
     obtain⟨⟨x,p⟩,hv,h⟩:=hx
     cases aM hv
     have hx:=zBd h
     clear h
     obtain⟨e,ho,h⟩:=hx
     cases bU ho
     obtain⟨i,h1,h⟩:=zBd h
     obtain⟨v1,v2,v3,v4⟩:=O.cx.vis x i h1
     split at h
     ·rename_i hc
      rw [av] at hc
      obtain⟨f,h2,h⟩:=zBd h
      have me:=(kE X C _ f O.cx h2).1
      have ns:=aJ (es:=[]) (env:=X.env) (aI h2).1
      split at h
      ·rename_i hm
       cases h
       subst hm
       exact dS (aIq v1 v2 v3 v4 me ns hc.2)
      ·split at h
       ·rename_i hm
        cases h
        subst hm
        exact dS (aIs v1 v2 v3 v4 me ns hc.2)
       ·cases h
     ·cases h
    ·obtain⟨f,h1,rfl⟩:=zMd h
     exact dS (aDp (kE X C _ f O.cx h1).1 rfl)
    ·cases h
   ·cases h
  ·cases h
 ·obtain⟨f,h1,h⟩:=zBd h
  obtain⟨ga,h2,h⟩:=zBd h
  obtain⟨gb,h3,rfl⟩:=zMd h
  exact dS (aL3 (kE X C _ f O.cx h1).2.1 (hS X C t _ ga O hd h2) (hS X C t _ gb O hd h3))
 ·-- for
  rename_i tg it b els pos
  cases t with
  | true=>cases h
  | false=>
   cases els with
   | cons _ _=>cases h
   | nil=>
    simp only [Bool.false_or,List.isEmpty_nil,Bool.not_true,ay,if_false] at h
    obtain⟨⟨xs,k⟩,h1,h⟩:=zBd h
    obtain⟨f,h2,h⟩:=zBd h
    obtain⟨is,h3,h⟩:=zBd h
    split at h
    ·obtain⟨gb,h4,rfl⟩:=zMd h
     have mig:MIG X ad tg it f/\ ∀ a b c,it≠ .Set a b c:=by
      unfold aNv at h2
      split at h2
      ·exact⟨kX (kE X C _ f O.cx h2).1,fun _ _ _ z=>nomatch z⟩
      ·rename_i hn
       exact⟨(kI X C tg _ _ f O.cx (aBn h1).2 h2).2 (fun x p z=>hn x p z),fun a b c z=>by subst z;exact m8 h2⟩
     exact dS (aIt (hd rfl).2 O.cx.calm O.cx.nd mig.1 h1 (O.nms h3) (hS X C false _ gb O hd h4) (aDg mig.2))
    ·cases h
 ·-- raise
  rename_i x c pos
  cases t with
  | true=>cases h
  | false=>
   cases c with
   | some _=>cases h
   | none=>
    simp only [Bool.false_or,Option.isSome_none,ay,if_false] at h
    have hx:=zBd h
    clear h
    obtain⟨e,rfl,h⟩:=hx
    split at h
    ·rename_i f' as kws cp
     split at h
     ·rename_i hkw
      cases dH hkw
      have hx:=zBd h
      clear h
      obtain⟨⟨x,p⟩,hv,h⟩:=hx
      cases aM hv
      have hx:=zBd h
      clear h
      obtain⟨a,ho,h⟩:=hx
      cases bU ho
      split at h
      ·rename_i hstr
       obtain⟨sx,k1,k2,rfl⟩:=qR hstr
       split at h
       ·rename_i c e1 e2
        cases h
        obtain⟨g1,g2,g3,g4⟩:=O.cx.gl e2
        exact Zt.imp (yN (hd rfl).1 O.cx.calm g1 g3 g2 (O.exi c)) fun E z=>z rfl
       ·cases h
      ·cases h
     ·cases h
    ·cases h
 ·cases h
theorem aJp {n:Nat} (hS:aMi ad E₀ n) (hSs:zM ad E₀ n):zM ad E₀ (n+1):=by
 intro X C t s g O hd h
 have hB: ∀ a:Stmt,MS X ad (Zt ad E₀ t) a ((pO n t C a).getD aKn):=fun a=>by
  cases e:pO n t C a with
  | none=>exact aIu
  | some f=>exact hS X C t a f O hd e
 unfold jL at h
 split at h
 ·cases h;exact uM
 ·cases h;exact aDm (hB _)
 ·obtain⟨r,h2,rfl⟩:=zMd h
  exact yJ (hB _) (hSs X C t _ r O hd h2)
theorem i8: ∀ n,aMi ad E₀ n/\zM ad E₀ n:=by
 intro n
 induction n with
 | zero=>
  refine⟨?_, ?_⟩
  ·intro X C t s g O hd h
   unfold pO at h
   cases h
  ·intro X C t s g O hd h
   unfold jL at h
   cases h
 | succ n ih=>exact⟨aMj ih.2,aJp ih.1 ih.2⟩
end
noncomputable def GlT (P:Program) (w:World) (K:Frag) (mg:Str->Option Value) (base:Heap) (ad:Ad) (k:Nat) (x:Str):SK.Gl->Prop
 | .fn j n F=> ∃ r f,r<=k/\mg x=some (.ref f)/\keepIn K (.ref f)=true/\(∃ fd ps,FnOk P w K mg base (CXe P w) r f fd ps (aDd K ad n F)/\eK K fd ps [])/\f=ad.fnA j
 | .exc c=>mg x=some (.ref (ad.cls c))/\c<ad.nb
 | .verr=>x="ValueError"/\mg x=none
 | .val d=> ∃ u v,mg x=some u/\aP v u/\ ∀ G,Rep K ad G d v
 | .py p=>x=cD p/\mg x=none
 | .cls A ms=>mg x=some (.ref A)/\RkC K A/\ ∀ m n M,ms.lookup m=some (n,M)->(m≠"held"/\m≠"done"/\m≠"undone")/\ ∃ f r fd ps,r<=k/\Meth K A m f/\FnOk P w K mg base (CXe P w) r f fd ps (spM K ad A n M)/\eK K fd ps []
def cU (P:Program) (w:World) (K:Frag) (mg:Str->Option Value) (base:Heap) (ad:Ad) (k:Nat) (tab:List (Str×SK.Gl)):Prop:= ∀ x g,tab.lookup x=some g->(x==("__debug__":Str))=false/\GlT P w K mg base ad k x g
def eA (P:Program) (w:World) (K:Frag) (mg:Str->Option Value) (base:Heap) (ad:Ad) (k:Nat) (fns:List (Nat×Fn)):Prop:= ∀ j n F,fns[j]? =some (n,F)-> ∃ r,r<=k/\keepIn K (.ref (ad.fnA j))=true/\ ∃ fd ps,FnOk P w K mg base (CXe P w) r (ad.fnA j) fd ps (aDd K ad n F)/\eK K fd ps []
structure ExcK (K:Frag) (ad:Ad):Prop where
 exc: ∀ c,ExcCls K (ad.cls c)
 kin: ∀ c e,c<ad.nb->kitOne K (.ref (ad.cls e)) (.ref (ad.cls c))=some (hit c e)
 kve: ∀ e,kitOne K (.ref (ad.cls e)) (.type "ValueError")=some true
 exm: ∀ c,exmOne K (.ref (ad.cls c)) (.ref (ad.cls 0))=some true
 exi: ∀ c,excIn K (ad.cls c) aKu "ValueError.__new__"=true
section
variable {P:Program} {w:World} {K:Frag} {mg:Str->Option Value} {base:Heap} {ad:Ad} {k:Nat} {tab:List (Str×SK.Gl)}
theorem GlT.mono {x:Str} {g:SK.Gl} {j:Nat} (h:GlT P w K mg base ad k x g) (hk:k<=j):GlT P w K mg base ad j x g:=by
 cases g with
 | fn i n F=>
  obtain⟨r,f,a,b⟩:=h
  exact⟨r,f,Nat.le_trans a hk,b⟩
 | exc c=>exact h
 | verr=>exact h
 | val d=>exact h
 | py p=>exact h
 | cls A ms=>exact⟨h.1,h.2.1,fun m n M hm=>let ⟨no,f,r,fd,ps,h1,h2⟩:=h.2.2 m n M hm;⟨no,f,r,fd,ps,Nat.le_trans h1 hk,h2⟩⟩
theorem cU.mono {j:Nat} (h:cU P w K mg base ad k tab) (hk:k<=j):cU P w K mg base ad j tab:=fun x g e=>⟨(h x g e).1,(h x g e).2.mono hk⟩
theorem wE {a:Addr} {o:Obj} {its:Array Value} {n:Nat} {ds:List D} {vs:List V} {G:Hp} (h:K.lookup a=some o) (hc:o.cls= .type "tuple") (hd:o.dict=none) (hs:o.data= .seq its n) (hz:its.size<=sizeLine) (hv:aY vs its.toList) (hr:aF K ad G ds vs):Rep K ad G (.tup ds) (.ref a):=by
 unfold Rep
 exact⟨a,vs,rfl, .inr ⟨o,its,n,h,hc,hd,hs,hz,hv⟩,hr⟩
theorem cU.nil:cU P w K mg base ad k []:=fun x g e=>by cases e
theorem cU.cons {x:Str} {g:SK.Gl} (h:cU P w K mg base ad k tab) (hd:(x==("__debug__":Str))=false) (hg:GlT P w K mg base ad k x g):cU P w K mg base ad k ((x,g)::tab):=by
 intro y g' e
 rw [List.lookup_cons] at e
 cases q:y==x with
 | true=>
  rw [q] at e
  cases e
  have:y=x:=by simpa using q
  subst this
  exact⟨hd,hg⟩
 | false=>
  rw [q] at e
  exact h y g' e
theorem eA.nil:eA P w K mg base ad k []:=fun j n F e=>by simp at e
theorem eA.snoc {fns:List (Nat×Fn)} {j n:Nat} {F:Fn} {r k':Nat} {f:Addr} {fd:FuncData} {ps:List Str} (h:eA P w K mg base ad k fns) (hk:k<=k') (hl:fns.length=j) (hf:f=ad.fnA j) (hr:r<=k') (kp:keepIn K (.ref f)=true) (ok:FnOk P w K mg base (CXe P w) r f fd ps (aDd K ad n F)) (hb:eK K fd ps []):
  eA P w K mg base ad k' (fns++[(n,F)]):=by
 intro i m G e
 subst hf
 by_cases hi:i<fns.length
 ·rw [bx hi] at e
  obtain⟨r',h1,h2⟩:=h i m G e
  exact⟨r',Nat.le_trans h1 hk,h2⟩
 ·rw [bn (by omega)] at e
  cases hq:i - fns.length with
  | zero=>
   rw [hq] at e
   cases e
   have:i=j:=by omega
   subst this
   exact⟨r,hr,kp,fd,ps,ok,hb⟩
  | succ q=>rw [hq] at e;simp at e
theorem cM {N Ps:List Str} {sc:Scope} (h:bS N Ps sc=true):FnScope N Ps sc/\ ∀ x∈N,(x==("__debug__":Str))=false/\(x==("__classdict__":Str))=false:=by
 unfold bS at h
 simp only [av] at h
 obtain⟨⟨⟨⟨⟨⟨⟨h1,h2⟩,h3⟩,h4⟩,h5⟩,h6⟩,h7⟩,h8⟩:=h
 refine⟨⟨by simpa using h1,by simpa using h2,by simpa using h3,of_decide_eq_true h4,of_decide_eq_true h5,fun x hx=> ?_,fun y hy z=> ?_⟩,fun x hx=> ?_⟩
 ·have:=zAd h6 x hx
  rcases(Bool.or_eq_true _ _).mp this with z | z
  ·exact .inl (bL z)
  ·exact .inr (bL z)
 ·have:=zAd h7 y hy
  rw [z] at this
  simp at this
 ·have:=zAd h8 x hx
  simpa using this
theorem iC {X:Cx} {G:Hp} {ds:List D} {vs:List V} {n:Nat} (hG:Same G X.H₀) (r:aF X.K ad G ds vs):SS X ad G G X.H₀ (ds.map Slot.sh++ak n .no) (vs.map some++ak n none):=by
 have hl:=r.length
 have key: ∀ (i:Nat) (sl:Slot),(ds.map Slot.sh++ak n .no)[i]? =some sl->(∃ d v,sl= .sh d/\(vs.map some++ak n none)[i]? =some (some v)/\Rep X.K ad G d v)\/(sl= .no/\ ∃ ov,(vs.map some++ak n none)[i]? =some ov):=fun i sl e=>by
  by_cases hi:i<ds.length
  ·rw [bx (by simpa using hi),List.getElem?_map] at e
   cases e1:ds[i]? with
   | none=>rw [e1] at e;cases e
   | some d=>
    rw [e1] at e
    cases e
    obtain⟨v,e2,q⟩:=r.get e1
    refine .inl ⟨d,v,rfl, ?_,q⟩
    rw [bx (by rw [ao];omega),List.getElem?_map,e2]
    rfl
  ·rw [bn (by simpa using hi),List.getElem?_replicate] at e
   split at e
   ·cases e
    refine .inr ⟨rfl,none, ?_⟩
    rename_i hlt
    rw [bn (by rw [ao];omega),List.getElem?_replicate,if_pos]
    rw [ao] at hlt ⊢
    omega
   ·cases e
 refine⟨Step.refl hG,⟨by simp [hl],fun i sl e=> ?_⟩,fun i xs a e w h=> ?_,fun i j xs ys a e1 e2 w1 w2 h1 h2=> ?_, ?_⟩
 ·rcases key i sl e with ⟨d,v,rfl,e1,q⟩ | ⟨rfl,ov,e1⟩
  ·exact⟨some v,e1,v,rfl,q⟩
  ·exact⟨ov,e1,trivial⟩
 ·rcases key i _ e with ⟨d,v,z,_⟩ | ⟨z,_⟩<;>(subst z;exact(bf w).elim)
 ·rcases key i _ e1 with ⟨d,v,z,_⟩ | ⟨z,_⟩<;>(subst z;exact(bf w1).elim)
 ·have no: ∀ {i:Nat} {as:List Addr}, ¬ eV X.H₀ (ds.map Slot.sh++ak n .no) (vs.map some++ak n none) i as:=fun {i as} f=>by
   obtain⟨C,r,p,dx,d,l1,l2,f1,_⟩:=f
   rcases key i _ f1 with ⟨d,v,z,_⟩ | ⟨z,_⟩<;>cases z
  exact⟨fun i as f=>(no f).elim,fun i as f=>(no f).elim,fun i j as as' a f=>(no f).elim⟩
theorem o7 {qual:Str} {f:Addr} {cdv:Value} {A:Around} {outer:List PySem.Env} {s:Shared} {H:Hp} {E:XK} {fns:List (Nat×Fn)} {sc:Scope} {ps bs:List Str} (B:ExcK K ad) (TB:cU P w K mg base ad k tab) (FB:eA P w K mg base ad k fns) (hs:bS (aC sc) ps sc=true) (hr:Room k (A.deeper (envOfC qual sc s.heap.objs.size f cdv))):
  StOk (lX (CXe P w) P w K mg base (aC sc) qual sc f cdv A outer s H E) ad ⟨tab,fns,sc,aC sc,bs⟩:=by
 obtain⟨S,nm⟩:=cM hs
 let C:SK.Ctx:=⟨tab,fns,sc,aC sc,bs⟩
 have vis: ∀ x i,loc C x=some i->(aC sc)[i]? =some x/\Loc sc x/\x∈aC sc:=fun x i e=>by
  obtain⟨e1,e2⟩:=kZ e
  refine⟨eN e1, ?_,kY e1⟩
  rcases e2 with e2 | e2 | e2
  ·exact .inl e2
  ·exact .inr e2
  ·exact absurd rfl (S.nofree _ (eW e2))
 refine⟨⟨rfl,S.nd,fun x i e=> ?_,fun x e=>e,fun x g e=> ?_,fun x i e=> ?_,rfl, ?_,hr.hd,B.exc,B.kin,B.kve,fun j m F' e=> ?_⟩,fun _=>rfl,rfl,fun x i e=>(vis x i e).2.1,B.exm,B.exi⟩
 ·obtain⟨a,b,c⟩:=vis x i e
  exact⟨a,b.elim .inl fun z=> .inr (.inl z),(nm x c).1,(nm x c).2⟩
 ·obtain⟨a,b⟩:=TB x g e
  refine⟨a, ?_⟩
  cases g with
  | fn j m F'=>
   obtain⟨r',f',h1,h2,h3,h4,h5⟩:=b
   exact⟨r',f',⟨h2,h3,h4⟩,hr.mono h1,h5⟩
  | exc c=>exact b
  | verr=>exact b
  | val d=>exact b
  | py p=>exact b
  | cls A ms=>exact⟨b.1,b.2.1,fun m n M hm=>let ⟨no,f,r,fd,ps,h1,h2,h3,h4⟩:=b.2.2 m n M hm;⟨no,f,r,fd,ps,h2,h3,hr.mono h1,h4⟩⟩
 ·obtain⟨e1,e2⟩:=dU e
  rcases e2 with e2 | e2
  ·exact .inl e2
  ·exact absurd rfl (S.nofree _ (eW e2))
 ·exact Nat.lt_of_le_of_lt (Nat.add_le_add_left (by decide:62<=64) _) hr.units
 ·obtain⟨r',h1,h2,h3⟩:=FB j m F' e
  exact⟨r',⟨h2,h3⟩,hr.mono h1⟩
theorem aJq {x qual:Str} {st:Stmt} {f:Addr} {fd:FuncData} {fns:List (Nat×Fn)} {n:Nat} {F:Fn} {ps:List Str} (B:ExcK K ad) (TB:cU P w K mg base ad k tab) (FB:eA P w K mg base ad k fns) (Fu:Fun K x qual st f fd) (hps:eM (defArgs st)=some ps)
  (hd:aCz tab fns st=some (n,F)):FnOk P w K mg base (CXe P w) (k+1) f fd ps (aDd K ad n F):=by
 obtain⟨oc,od,kV,doc,pm,an,cdv,ct,osl,rfl,lk,hcd⟩:=Fu.ex
 cases st with
 | FunctionDef nm as b dl re tp sc ts bi pos=>
  have hd':((eM as).bind fun Ps=>if bS (aC sc) Ps sc then(jL 100 false ⟨tab,fns,sc,aC sc,tU 50 b⟩ b).map fun g=>(Ps.length,SK.fnOf (aC sc).length g) else none)=some (n,F):=hd
  have hps':eM as=some ps:=hps
  rw [hps'] at hd'
  have hd2:(if bS (aC sc) ps sc then(jL 100 false ⟨tab,fns,sc,aC sc,tU 50 b⟩ b).map fun g=>(ps.length,SK.fnOf (aC sc).length g) else none)=some (n,F):=hd'
  by_cases hs:bS (aC sc) ps sc=true
  ·rw [if_pos hs] at hd2
   obtain⟨g,hg,e⟩:=zMd hd2
   cases e
   obtain⟨S,nm⟩:=cM hs
   refine aCf lk hcd S (fun vs H Q E ⟨G,ds,_,r,hl,_⟩=>by rw [r.length,hl]) fun A outer s H vs Q E hr hz_=> ?_
   obtain⟨G,ds,hG,r,hl,hq⟩:=hz_
   let C:SK.Ctx:=⟨tab,fns,sc,aC sc,tU 50 b⟩
   have O:StOk (lX (CXe P w) P w K mg base (aC sc) qual sc f cdv A outer s H E) ad C:=o7 B TB FB hs hr
   have T:DefX (lX (CXe P w) P w K mg base (aC sc) qual sc f cdv A outer s H E) E:=⟨rfl,rfl,rfl,fun e s' h=>h⟩
   refine⟨_,(i8 (ad:=ad) (E₀:=E) 100).2 _ C false b g O (fun _=>⟨T,PassesOwn.leaving (Q₁:=fun e s''=>CXe P w outer H s E e s'')⟩) hg, ?_⟩
   refine⟨G,G,ds.map Slot.sh++ak ((aC sc).length - ds.length) .no,fun σ c H'=>E (.ref (ad.cls c)) none H', ?_,⟨fun σ=>p8 T,fun _ σ c H h=>h⟩, ?_⟩
   ·have:=iC (X:=lX (CXe P w) P w K mg base (aC sc) qual sc f cdv A outer s H E) (ad:=ad) (n:=(aC sc).length - ds.length) hG r
    unfold L2.start
    rw [r.length]
    exact this
   ·have hq':RK K ad G H (match g (ds.map Slot.sh++ak ((aC sc).length - ds.length) .no) with
     | .rt (.ok d)=> .ok d
     | .rt (.ow xs)=> .ow xs
     | .rt _=> .bad
     | .nx _=> .ok .non
     | .ex c _=> .ex c
     | _=> .bad) Q (fun c H'=>E (.ref (ad.cls c)) none H'):=hq
    cases e:g (ds.map Slot.sh++ak ((aC sc).length - ds.length) .no) with
    | nx ρ=>rw [e] at hq';exact fun σ G' H' S'=>hq' .non G' H' S'.st (by unfold Rep;rfl)
    | bk ρ=>rw [e] at hq';exact hq'.elim
    | ct ρ=>rw [e] at hq';exact hq'.elim
    | ex c ρ=>rw [e] at hq';exact fun σ G' H' S'=>hq' G' H' S'.st
    | rt r'=>
     rw [e] at hq'
     cases r' with
     | ok d=>exact hq'
     | ow xs=>exact hq'
     | ex c=>exact hq'.elim
     | bad=>exact hq'.elim
  ·rw [if_neg hs] at hd2
   cases hd2
 | _=>cases hd
noncomputable def qU (K:Frag) (cs:List Addr) (C0:Addr):Bool:=
 decide (cs.length<=100)&&cs.head?==some C0&&cs.all fun C=>(clsIn K C).isSome&&mroIn K C (.type "object")==some true&&mroIn K C (.type "BaseException")==some true&&findIn K (.ref C) "__class__"==some (some (.builtin "object.__class__"))&&
  findIn K (.ref C) "__getattribute__"==some (some (.builtin "BaseException.__getattribute__"))&&findIn K (.ref C) "__getattr__"==some none&&kitOne K (.ref C) (.type "ValueError")==some true&&exmOne K (.ref C) (.ref C0)==some true&&
  excIn K C aKu "ValueError.__new__"
noncomputable def qV (K:Frag) (cs:List Addr):Bool:=cs.zipIdx.all fun p=>cs.zipIdx.all fun q=>kitOne K (.ref p.1) (.ref q.1)==some (hit q.2 p.2)
noncomputable def zN (cs:List Addr) (C0:Addr) (fs:List Addr):Ad:=⟨fun c=>cs.getD c C0,fun k=>if k<1000 then fs.getD k 0 else k - 1000,cs.length⟩
theorem aEt {cs fs:List Addr} {C0:Addr} (h:qU K cs C0=true) (h2:qV K cs=true):ExcK K (zN cs C0 fs):=by
 unfold qU at h
 rw [av,av] at h
 obtain⟨⟨hl,hh⟩,ha⟩:=h
 have hl:cs.length<=100:=of_decide_eq_true hl
 have hh:cs.head?=some C0:=by simpa using hh
 have mem0:C0∈cs:=List.mem_of_mem_head? (by rw [hh];rfl)
 have get: ∀ c,(zN cs C0 fs).cls c∈cs:=fun c=>by
  show cs.getD c C0∈cs
  rw [bz]
  cases e:cs[c]? with
  | none=>exact mem0
  | some a=>exact List.mem_of_getElem? e
 have z0:cs[0]? =some C0:=by rw [<-List.head?_eq_getElem?];exact hh
 have c0:(zN cs C0 fs).cls 0=C0:=by
  show cs.getD 0 C0=C0
  rw [bz,z0]
  rfl
 have all: ∀ C∈cs,ExcCls K C/\kitOne K (.ref C) (.type "ValueError")=some true/\exmOne K (.ref C) (.ref C0)=some true/\excIn K C aKu "ValueError.__new__"=true:=fun C hC=>by
  have:=zAd ha C hC
  simp only [av,beq_iff_eq] at this
  obtain⟨⟨⟨⟨⟨⟨⟨⟨h1,h2⟩,h3⟩,h4⟩,h5⟩,h6⟩,h7⟩,h8⟩,h9⟩:=this
  exact⟨⟨h1,h2,h3,h4,h5,h6⟩,h7,h8,h9⟩
 have pair: ∀ (c e:Nat) (a b:Addr),cs[e]? =some a->cs[c]? =some b->kitOne K (.ref a) (.ref b)=some (hit c e):=fun c e a b ea eb=>by
  unfold qV at h2
  have m1:(a,e)∈cs.zipIdx:=List.mem_zipIdx_iff_getElem?.mpr ea
  have m2:(b,c)∈cs.zipIdx:=List.mem_zipIdx_iff_getElem?.mpr eb
  have:=zAd (zAd h2 _ m1) _ m2
  simpa using this
 refine⟨fun c=>(all _ (get c)).1,fun c e hc=> ?_,fun e=>(all _ (get e)).2.1,fun c=> ?_,fun c=>(all _ (get c)).2.2.2⟩
 ·have hc':c<cs.length:=hc
  obtain⟨b,eb⟩: ∃ b,cs[c]? =some b:=⟨_,bd hc'⟩
  have e1:(zN cs C0 fs).cls c=b:=by
   show cs.getD c C0=b
   rw [bz,eb]
   rfl
  rw [e1]
  cases ea:cs[e]? with
  | some a=>
   have e2:(zN cs C0 fs).cls e=a:=by
    show cs.getD e C0=a
    rw [bz,ea]
    rfl
   rw [e2]
   exact pair c e a b ea eb
  | none=>
   have e2:(zN cs C0 fs).cls e=C0:=by
    show cs.getD e C0=C0
    rw [bz,ea]
    rfl
   have hel:cs.length<=e:=List.getElem?_eq_none_iff.mp ea
   rw [e2,pair c 0 C0 b z0 eb]
   congr 1
   unfold hit
   have n1:(c==e)=false:=by simp;omega
   rw [n1]
   cases c<;>simp
 ·rw [c0]
  exact(all _ (get c)).2.2.1
end
section
variable {P:Program} {w:World} {K:Frag} {mg:Str->Option Value} {base h:Heap} {ad:Ad} {k:Nat} {tab:List (Str×SK.Gl)} {fns:List (Nat×Fn)}
structure PQ (P:Program) (w:World) (K:Frag) (mg:Str->Option Value) (base h:Heap) (ad:Ad) (k:Nat) (tab:List (Str×SK.Gl)) (fns:List (Nat×Fn)):Prop where
 t:cU P w K mg base ad k tab
 u:eA P w K mg base ad k fns
 X:K.In h
 G:h.Ns mainGlobals mg
 B:ExcK K ad
def Bnd (x:Str) (st:Stmt) (ps:List Str):Prop:= ∀ (kV doc pm:Value) (an:Option Addr) (cdv ct:Value) (us:List Value),us.length=ps.length->bindArgs (PySem.W.fnOf x x (defArgs st) (defBody st) (defScope st) .none kV doc pm an cdv ct) ⟨us,[]⟩=pure (ps.zip us)
theorem PQ.cons (T:PQ P w K mg base h ad k tab fns) {x:Str} {f:Addr} {fd:FuncData} {ps:List Str} {n r:Nat} {M:Fn} (hr:k<=r) (ok:FnOk P w K mg base (CXe P w) r f fd ps (aDd K ad n M)) (hb:eK K fd ps []) (kp:keepIn K (.ref f)=true) (hm:mg x=some (.ref f)) (hj:f=ad.fnA fns.length) (hdb:(x==("__debug__":Str))=false):
  PQ P w K mg base h ad r ((x, .fn fns.length n M)::tab) (fns++[(n,M)]):=
 ⟨cU.cons (T.t.mono hr) hdb ⟨r,f,aj _,hm,kp,⟨_,_,ok,hb⟩,hj⟩,eA.snoc T.u hr rfl hj (aj _) kp ok hb,T.X,T.G,T.B⟩
theorem PQ.addV (T:PQ P w K mg base h ad k tab fns) (x:Str) (st:Stmt) (f:Addr) (ps:List Str) (n:Nat) (M:Fn) {oc:Value} {od an:Option Addr} {osl:Array (Option Value)} {kV doc pm cdv ct:Value} (l:K.lookup f=some ⟨oc,od, .func (PySem.W.fnOf x x (defArgs st) (defBody st) (defScope st) .none kV doc pm an cdv ct),osl⟩)
  (fns':List (Nat×Fn)) (hf:fns'=fns\/fns'=[]) (d:aCz tab fns' st=some (n,M):=by kernel_rfl) (c:codeIn K cdv x=true:=by kernel_rfl) (kp:keepIn K (.ref f)=true:=by kernel_rfl) (hm:nsIn K mainGlobals x=some (some (.ref f)):=by kernel_rfl) (hj:f=ad.fnA fns.length:=by rfl)
  (hdb:(x==("__debug__":Str))=false:=by decide) (hps:eM (defArgs st)=some ps:=by rfl) (hb:Bnd x st ps:=by intro _ _ _ _ _ _ us hl;rcases us with _ | ⟨u0,_ | ⟨u1,_ | ⟨u2,_ | ⟨u3,_ | ⟨u4,us⟩⟩⟩⟩⟩<;>first | rfl | (simp at hl)):
  PQ P w K mg base h ad (k+1) ((x, .fn fns.length n M)::tab) (fns++[(n,M)]):=by
 have F:=pL (st:=st) l c kp
 refine T.cons (Nat.le_succ _) (aJq (ps:=ps) T.B T.t ?_ F hps d) (F.binds hb) kp (PySem.W.mg_of T.X T.G hm) hj hdb
 rcases hf with rfl | rfl
 ·exact T.u
 ·exact eA.nil
theorem PQ.add (T:PQ P w K mg base h ad k tab fns) (x:Str) (st:Stmt) (f:Addr) (ps:List Str) (n:Nat) (M:Fn) {oc:Value} {od an:Option Addr} {osl:Array (Option Value)} {kV doc pm cdv ct:Value} (l:K.lookup f=some ⟨oc,od, .func (PySem.W.fnOf x x (defArgs st) (defBody st) (defScope st) .none kV doc pm an cdv ct),osl⟩)
  (d:aCz tab [] st=some (n,M):=by kernel_rfl) (c:codeIn K cdv x=true:=by kernel_rfl) (kp:keepIn K (.ref f)=true:=by kernel_rfl) (hm:nsIn K mainGlobals x=some (some (.ref f)):=by kernel_rfl) (hj:f=ad.fnA fns.length:=by rfl)
  (hdb:(x==("__debug__":Str))=false:=by decide) (hps:eM (defArgs st)=some ps:=by rfl) (hb:Bnd x st ps:=by intro _ _ _ _ _ _ us hl;rcases us with _ | ⟨u0,_ | ⟨u1,_ | ⟨u2,_ | ⟨u3,_ | ⟨u4,us⟩⟩⟩⟩⟩<;>first | rfl | (simp at hl)):
  PQ P w K mg base h ad (k+1) ((x, .fn fns.length n M)::tab) (fns++[(n,M)]):=T.addV x st f ps n M l [] (.inr rfl) d c kp hm hj hdb hps hb
theorem PQ.py (T:PQ P w K mg base h ad 0 tab []) (p:Py) (hm:nsIn K mainGlobals (cD p)=some none:=by kernel_rfl) (hdb:(cD p==("__debug__":Str))=false:=by decide):PQ P w K mg base h ad 0 ((cD p, .py p)::tab) []:=⟨cU.cons T.t hdb ⟨rfl,PySem.W.mg_none_of T.X T.G hm⟩,T.u,T.X,T.G,T.B⟩
theorem PQ.verr (T:PQ P w K mg base h ad 0 tab []) (hm:nsIn K mainGlobals "ValueError"=some none:=by kernel_rfl):PQ P w K mg base h ad 0 (("ValueError", .verr)::tab) []:=⟨cU.cons T.t (by decide) ⟨rfl,PySem.W.mg_none_of T.X T.G hm⟩,T.u,T.X,T.G,T.B⟩
theorem PQ.exc (T:PQ P w K mg base h ad 0 tab []) (x:Str) (c:Nat) (hm:nsIn K mainGlobals x=some (some (.ref (ad.cls c))):=by kernel_rfl) (hc:c<ad.nb:=by decide) (hdb:(x==("__debug__":Str))=false:=by decide):PQ P w K mg base h ad 0 ((x, .exc c)::tab) []:=⟨cU.cons T.t hdb ⟨PySem.W.mg_of T.X T.G hm,hc⟩,T.u,T.X,T.G,T.B⟩
theorem PQ.int (T:PQ P w K mg base h ad 0 tab []) (x:Str) (i:Int) (t:Tok) (hm:nsIn K mainGlobals x=some (some (.int i t)):=by kernel_rfl) (hdb:(x==("__debug__":Str))=false:=by decide):PQ P w K mg base h ad 0 ((x, .val (.int i))::tab) []:=⟨cU.cons T.t hdb ⟨.int i t, .int i,PySem.W.mg_of T.X T.G hm,⟨_,rfl⟩,fun G=>by unfold Rep;rfl⟩,T.u,T.X,T.G,T.B⟩
theorem PQ.val (T:PQ P w K mg base h ad 0 tab []) (x:Str) {d:D} {u:Value} {v:V} (hv:aP v u) (hr: ∀ G,Rep K ad G d v) (hm:nsIn K mainGlobals x=some (some u):=by kernel_rfl) (hdb:(x==("__debug__":Str))=false:=by decide):PQ P w K mg base h ad 0 ((x, .val d)::tab) []:=⟨cU.cons T.t hdb ⟨u,v,PySem.W.mg_of T.X T.G hm,hv,hr⟩,T.u,T.X,T.G,T.B⟩
theorem PQ.nil (X:K.In h) (G:h.Ns mainGlobals mg) (B:ExcK K ad):PQ P w K mg base h ad 0 [] []:=⟨cU.nil,eA.nil,X,G,B⟩
end
inductive OutM where
 | nx (ρ:Rho) (b:Bool) | rt (x:R) (ρ:Rho) (b:Bool) | ex (c:Nat) (b:Bool) | bad
abbrev FSM:=Rho->Bool->OutM
noncomputable def xH (b:Bool) (r:R) (k:D->OutM):OutM:=match r with
 | .ok d=>k d
 | .ow xs=>k (.lst xs)
 | .ex c=> .ex c b
 | .bad=> .bad
noncomputable def fO:FSM:=fun ρ b=> .nx ρ b
noncomputable def jF (g h:FSM):FSM:=fun ρ b=>match g ρ b with
 | .nx ρ' b'=>h ρ' b'
 | o=>o
noncomputable def mIf (f:F) (g h:FSM):FSM:=fun ρ b=>match f ρ with
 | .ok (.bl k)=>if k then g ρ b else h ρ b
 | .ex c=> .ex c b
 | _=> .bad
noncomputable def aMk (i:Nat) (f:F):FSM:=fun ρ b=>xH b (f ρ) fun d=> .nx (ρ.set (i+1) (.sh d)) b
noncomputable def wF (f:F):FSM:=fun ρ b=>xH b (f ρ) fun _=> .nx ρ b
noncomputable def aBo (f:F):FSM:=fun ρ b=>match f ρ with
 | .ex c=> .ex c b
 | x=> .rt x ρ b
noncomputable def wG (c:Nat):FSM:=fun _ b=> .ex c b
def StB (b:Bool) (foot:List Addr) (G₀ H₀ G H:Hp):Prop:=if b=true then StepR foot G₀ H₀ G H else Step G₀ H₀ G H
theorem StepR.step {foot:List Addr} {G₀ H₀ G H G1 H1:Hp} (a:StepR foot G₀ H₀ G H) (t:Step G H G1 H1) (fr: ∀ b,H₀ b≠none->H b≠none):StepR foot G₀ H₀ G1 H1:=
 ⟨a.sg.trans t.sg,t.gh,fun b o hb e=>t.sh _ _ (a.sh b o hb e),fun b h1 h2=>by
  cases q:G b with
  | none=>
   have:=t.nw b q h2
   cases z:H₀ b with
   | none=>rfl
   | some o=>exact absurd this (fr b (by rw [z];exact fun y=>nomatch y))
  | some o=>exact a.nw b h1 (by rw [q];exact fun z=>nomatch z),fun b hb=>by
  cases q:H b with
  | none=>exact absurd q (fr b hb)
  | some o=>rw [t.sh b o q];exact fun z=>nomatch z⟩
theorem Step.toR {foot:List Addr} {G₀ H₀ G H:Hp} (a:Step G₀ H₀ G H):StepR foot G₀ H₀ G H:=⟨a.sg,a.gh,fun b o _ e=>a.sh b o e,a.nw,fun b hb=>by
 cases q:H₀ b with
 | none=>exact absurd q hb
 | some o=>rw [a.sh b o q];exact fun z=>nomatch z⟩
noncomputable def shN:Slot->Bool
 | .no=>true
 | .sh _=>true
 | _=>false
structure SM (X:Cx) (ad:Ad) (A:Nat) (G₀:Hp) (p dx d l1 l20:Addr) (b:Bool) (G H:Hp) (ρ:Rho) (σ:St):Prop where
 sl:SL X.K ad G H ρ σ
 gh:Same G H
 me:σ[0]? =some (some (.ref p))
 rk: ∃ r l2,ρ[0]? =some (.rk A r)/\RackIn X.K ad A G H p r dx d l1 l2/\(l2=l20\/X.H₀ l2=none)
 st:StB b [p,dx,d,l1,l20] G₀ X.H₀ G H
 fr: ∀ c,X.H₀ c≠none->H c≠none
 on: ∀ j sl,ρ[j+1]? =some sl->shN sl=true
def OKm (X:Cx) (ad:Ad) (A:Nat) (G₀:Hp) (p dx d l1 l20:Addr) (o:OutM) (D':Ends) (E:Nat->Hp->Prop):Prop:=match o with
 | .nx ρ b=> ∀ σ G H,SM X ad A G₀ p dx d l1 l20 b G H ρ σ->D'.nx σ H
 | .rt (.ok x) ρ b=> ∀ σ G H v,SM X ad A G₀ p dx d l1 l20 b G H ρ σ->Rep X.K ad G x v->D'.rt v H
 | .rt (.ow xs) _ b=>b=false/\ ∀ q vs G H,Step G₀ X.H₀ G H->X.H₀ q=none->G q=none->H q=some (.lst vs)->aF X.K ad G xs vs->D'.rt (.ref q) H
 | .ex c b=>b=false/\ ∀ G H,Step G₀ X.H₀ G H->E c H
 | _=>False
noncomputable def tM (X:Cx) (ad:Ad) (A:Nat) (E:Nat->Hp->Prop) (g:FSM):TS:=fun D' σ H=> ∃ G₀ p dx d l1 l20 G ρ b,SM X ad A G₀ p dx d l1 l20 b G H ρ σ/\OKm X ad A G₀ p dx d l1 l20 (g ρ b) D' E
abbrev MM (X:Cx) (ad:Ad) (A:Nat) (E:Nat->Hp->Prop) (st:Stmt) (g:FSM):Prop:=PS X st (tM X ad A E g)
abbrev MMs (X:Cx) (ad:Ad) (A:Nat) (E:Nat->Hp->Prop) (sts:List Stmt) (g:FSM):Prop:=PSs X sts (tM X ad A E g)
section
variable {X:Cx} {ad:Ad} {A:Nat} {G₀ G H G1 H1:Hp} {p dx d l1 l20:Addr} {b:Bool} {ρ:Rho} {σ:St} {E:Nat->Hp->Prop} {D':Ends} {f:F} {g h:FSM} {e c:Expr} {st:Stmt} {sts:List Stmt} {pos pos':Pos}
theorem SM.step (S:SM X ad A G₀ p dx d l1 l20 b G H ρ σ) (t:Step G H G1 H1):SM X ad A G₀ p dx d l1 l20 b G1 H1 ρ σ:=by
 obtain⟨r,l2,h1,h2,h3⟩:=S.rk
 refine⟨S.sl.step t,t.gh,S.me,⟨r,l2,h1,h2.step t,h3⟩, ?_,fun c hc=> ?_,S.on⟩
 ·have z:=S.st
  unfold StB at z ⊢
  by_cases hb:b=true
  ·rw [if_pos hb] at z ⊢
   exact z.step t S.fr
  ·rw [if_neg hb] at z ⊢
   exact z.trans t
 ·cases q:H c with
  | none=>exact absurd q (S.fr c hc)
  | some o=>rw [t.sh c o q];exact fun z=>nomatch z
theorem j8 {k:D->OutM} {Q':VK} (S:SM X ad A G₀ p dx d l1 l20 b G H ρ σ) (hx:XP X ad σ E) (hr:OKm X ad A G₀ p dx d l1 l20 (xH b (f ρ) k) D' E)
  (q: ∀ v x G1 H1,SM X ad A G₀ p dx d l1 l20 b G1 H1 ρ σ->Rep X.K ad G1 x v->OKm X ad A G₀ p dx d l1 l20 (k x) D' E->Step G H G1 H1->Q' v H1):tE X ad f σ H Q':=by
 refine⟨G,ρ,E,S.gh,S.sl,hx, ?_⟩
 cases e:f ρ with
 | ok x=>
  rw [e] at hr
  exact fun v G1 H1 t r=>q v x G1 H1 (S.step t) r hr t
 | ow xs=>
  rw [e] at hr
  intro a vs G1 H1 t n m e' r
  obtain⟨G2,t2,r2⟩:=bF (X:=X) (ad:=ad) t n m e' r
  exact q _ _ G2 H1 (S.step t2) r2 hr t2
 | ex c=>
  rw [e] at hr
  obtain⟨hb,hr⟩:=hr
  have z:=S.st
  unfold StB at z
  rw [hb,if_neg bf] at z
  exact fun G1 H1 t=>hr G1 H1 (z.trans t)
 | bad=>
  rw [e] at hr
  exact hr
theorem aEu:MM X ad A E (.Pass pos) fO:=PS.imp sP fun D' σ H ⟨G₀,p,dx,d,l1,l20,G,ρ,b,S,hr⟩=>hr σ G H S
theorem aEv:MMs X ad A E [] fO:=PSs.imp sO fun D' σ H ⟨G₀,p,dx,d,l1,l20,G,ρ,b,S,hr⟩=>hr σ G H S
theorem zO (h1:MM X ad A E st g) (h2:MMs X ad A E sts h):MMs X ad A E (st::sts) (jF g h):=by
 refine PSs.imp (dN h1 h2) ?_
 rintro D' σ H ⟨G₀,p,dx,d,l1,l20,G,ρ,b,S,hr⟩
 refine⟨G₀,p,dx,d,l1,l20,G,ρ,b,S, ?_⟩
 unfold jF at hr
 cases e:g ρ b with
 | nx ρ' b'=>
  rw [e] at hr
  exact fun σ' G' H' S'=>⟨G₀,p,dx,d,l1,l20,G',ρ',b',S',hr⟩
 | rt x ρ' b'=>
  rw [e] at hr
  cases x with
  | ok x=>exact hr
  | ow xs=>exact hr
  | ex c=>exact hr
  | bad=>exact hr
 | ex c b'=>rw [e] at hr;exact hr
 | bad=>rw [e] at hr;exact hr
theorem aMl {a b:List Stmt} (hx: ∀ σ,XP X ad σ E) (hc:MT X ad c f) (ha:MMs X ad A E a g) (hb:MMs X ad A E b h):MM X ad A E (.If c a b pos) (mIf f g h):=by
 refine PS.imp (aGu hc ha hb) ?_
 rintro D' σ H ⟨G₀,p,dx,d,l1,l20,G,ρ,b,S,hr⟩
 unfold mIf at hr
 cases e:f ρ with
 | ok x=>
  rw [e] at hr
  cases x<;>try exact hr.elim
  rename_i k
  refine⟨G,ρ,E,S.gh,S.sl,hx σ, .inl ⟨k,e⟩, ?_⟩
  rw [e]
  intro v G1 H1 t r
  unfold Rep at r;subst r
  refine⟨k,rfl, ?_⟩
  have hr':OKm X ad A G₀ p dx d l1 l20 (if k=true then g ρ b else h ρ b) D' E:=hr
  cases k
  ·rw [if_neg bf] at hr'
   show if false=true then _ else _
   rw [if_neg bf]
   exact⟨G₀,p,dx,d,l1,l20,G1,ρ,b,S.step t,hr'⟩
  ·rw [if_pos rfl] at hr'
   show if true=true then _ else _
   rw [if_pos rfl]
   exact⟨G₀,p,dx,d,l1,l20,G1,ρ,b,S.step t,hr'⟩
 | ow xs=>rw [e] at hr;exact hr.elim
 | ex c=>
  rw [e] at hr
  obtain⟨hb,hr⟩:=hr
  have z:=S.st
  unfold StB at z
  rw [hb,if_neg bf] at z
  refine⟨G,ρ,E,S.gh,S.sl,hx σ, .inr ⟨c,e⟩, ?_⟩
  rw [e]
  exact fun G1 H1 t=>hr G1 H1 (z.trans t)
 | bad=>rw [e] at hr;exact hr.elim
theorem SM.set {i:Nat} {x:D} {v:V} (S:SM X ad A G₀ p dx d l1 l20 b G H ρ σ) (r:Rep X.K ad G x v):SM X ad A G₀ p dx d l1 l20 b G H (ρ.set (i+1) (.sh x)) (σ.set (i+1) (some v)):=by
 obtain⟨rr,l2,h1,h2,h3⟩:=S.rk
 refine⟨⟨by rw [List.length_set,List.length_set];exact S.sl.len,fun j sl e=> ?_⟩,S.gh,by rw [ba (by omega)];exact S.me,⟨rr,l2,by rw [ba (by omega)];exact h1,h2,h3⟩,S.st,S.fr,fun j sl e=> ?_⟩
 ·by_cases z:j=i+1
  ·subst z
   have hl:i+1<ρ.length:=by have:=(ax.mp e).1;rwa [List.length_set] at this
   rw [bj hl] at e
   cases e
   exact⟨some v,bj (by rw [<-S.sl.len];exact hl),v,rfl,r⟩
  ·rw [ba (Ne.symm z)] at e
   obtain⟨ov,k1,k2⟩:=S.sl.at_ j sl e
   exact⟨ov,by rw [ba (Ne.symm z)];exact k1,k2⟩
 ·by_cases z:j=i
  ·subst z
   have hl:j+1<ρ.length:=by have:=(ax.mp e).1;rwa [List.length_set] at this
   rw [bj hl] at e
   cases e
   rfl
  ·rw [ba (by omega)] at e
   exact S.on j sl e
theorem aEw (hx: ∀ σ,XP X ad σ E) (he:ME X ad e f) (hs:swapsWith e none pos.line X.env=pure false):MM X ad A E (.Expr e pos) (wF f):=by
 refine PS.imp (fH he hs) ?_
 rintro D' σ H ⟨G₀,p,dx,d,l1,l20,G,ρ,b,S,hr⟩
 exact j8 S (hx σ) hr fun v x G1 H1 S1 r k _=>k _ G1 H1 S1
theorem aJr (hx: ∀ σ,XP X ad σ E) (he:ME X ad e f):MM X ad A E (.Return (some e) pos) (aBo f):=by
 refine PS.imp (pB he) ?_
 rintro D' σ H ⟨G₀,p,dx,d,l1,l20,G,ρ,b,S,hr⟩
 refine⟨G,ρ,E,S.gh,S.sl,hx σ, ?_⟩
 unfold aBo at hr
 cases e:f ρ with
 | ok x=>
  rw [e] at hr
  exact fun v G1 H1 t r=>hr σ G1 H1 v (S.step t) r
 | ow xs=>
  rw [e] at hr
  obtain⟨hb,hr⟩:=hr
  have z:=S.st
  unfold StB at z
  rw [hb,if_neg bf] at z
  exact fun q vs G1 H1 t n m e' r=>hr q vs G1 H1 (z.trans t) (z.sh.free n) m e' r
 | ex c=>
  rw [e] at hr
  obtain⟨hb,hr⟩:=hr
  have z:=S.st
  unfold StB at z
  rw [hb,if_neg bf] at z
  exact fun G1 H1 t=>hr G1 H1 (z.trans t)
 | bad=>
  rw [e] at hr
  exact hr
theorem zP {E₀:XK} {x:Str} {k:Nat} {np cpos kp:Pos} {msg:Str} {j:Nat} (T:DefX X E₀) (hc:X.calm=true) (hg:L2.Gl X x) (hm:X.mg x=some (.ref (ad.cls k))) (hd:(x==("__debug__":Str))=false) (hi:excIn X.K (ad.cls k) [.type "ValueError", .type "Exception", .type "BaseException", .type "object"] "ValueError.__new__"=true) (hE: ∀ c H,E c H->E₀ (.ref (ad.cls c)) none H):
  MM X ad A E (.Raise (some (.Call (.Name x np) [.Constant (.str msg) j kp] [] cpos)) none pos) (wG k):=by
 intro pins s σ H D' I ⟨G₀,p,dx,d,l1,l20,G,ρ,b,S,hr⟩
 obtain⟨hb,hr⟩:=hr
 have z:=S.st
 unfold StB at z
 rw [hb,if_neg bf] at z
 exact p9 T hc hg hm hd hi I (hE k H (hr G H z))
end
noncomputable def aKw (kvs:List (Str×D)) (x:Str) (d:D):List (Str×D):=if(kvs.any fun p=>decide (p.1=x))=true then kvs.map (fun p=>if p.1=x then(p.1,d) else p) else kvs++[(x,d)]
noncomputable def zQ (kvs:List (Str×D)) (x:Str):List (Str×D):=kvs.filter fun p=>decide (p.1≠x)
noncomputable def mUp (A:Nat) (ρ:Rho) (k:Rk->OutM):OutM:=match(ρ[0]? :Option Slot) with
 | some (.rk C r)=>if C=A then k r else .bad
 | _=> .bad
noncomputable def setR (A:Nat) (ρ:Rho) (r:Rk):OutM:= .nx (ρ.set 0 (.rk A r)) true
noncomputable def aNz (bb:Bool) (r:Rk) (d:D):Rk:=if bb then { r with done:=r.done++[d] } else { r with undone:=r.undone++[d] }
noncomputable def aN0 (bb:Bool) (r:Rk):Rk:=if bb then { r with done:=r.done.dropLast } else { r with undone:=r.undone.dropLast }
noncomputable def aMm (A:Nat) (bb:Bool) (f:F):FSM:=fun ρ b=>mUp A ρ fun r=>xH b (f ρ) fun d=>if(xF bb r).length<LIM then setR A ρ (aNz bb r d) else .bad
noncomputable def aJs (A i:Nat) (bb:Bool):FSM:=fun ρ _=>mUp A ρ fun r=>match(xF bb r).getLast? with
 | some d=> .nx ((ρ.set 0 (.rk A (aN0 bb r))).set (i+1) (.sh d)) true
 | none=> .bad
noncomputable def wH (A:Nat):FSM:=fun ρ _=>mUp A ρ fun r=>setR A ρ { r with undone:=[] }
noncomputable def aEx (A:Nat) (f g:F):FSM:=fun ρ b=>xH b (g ρ) fun v=>mUp A ρ fun r=>xH b (f ρ) fun k=>match k with
 | .str x=>if r.held.length<LIM then setR A ρ { r with held:=aKw r.held x v } else .bad
 | _=> .bad
noncomputable def aEy (A:Nat) (f:F):FSM:=fun ρ b=>mUp A ρ fun r=>xH b (f ρ) fun k=>match k with
 | .str x=>if(n6 r.held x).isSome then setR A ρ { r with held:=zQ r.held x } else .bad
 | _=> .bad
noncomputable def aN1 (b:Bool) (r:RA) (k:List D->OutM):OutM:=match r with
 | .ok ds=>k ds
 | .ex c=> .ex c b
 | .bad=> .bad
section
variable {X:Cx} {ad:Ad} {A:Nat} {G₀ G H G1 H1:Hp} {p dx d l1 l2 l20:Addr} {b:Bool} {ρ:Rho} {σ:St} {E:Nat->Hp->Prop} {D':Ends} {f g:F} {e:Expr} {pos pos' ap cp np qp:Pos} {x:Str} {r r':Rk}
theorem j9 {k:Rk->OutM} (hr:OKm X ad A G₀ p dx d l1 l20 (mUp A ρ k) D' E): ∃ r,ρ[0]? =some (.rk A r)/\OKm X ad A G₀ p dx d l1 l20 (k r) D' E:=by
 unfold mUp at hr
 split at hr
 ·rename_i C r e
  by_cases hc:C=A
  ·rw [if_pos hc] at hr
   subst hc
   exact⟨r,e,hr⟩
  ·rw [if_neg hc] at hr
   exact hr.elim
 ·exact hr.elim
theorem SM.toR (S:SM X ad A G₀ p dx d l1 l20 b G H ρ σ):StepR [p,dx,d,l1,l20] G₀ X.H₀ G H:=by
 have z:=S.st
 unfold StB at z
 by_cases hb:b=true
 ·rw [if_pos hb] at z;exact z
 ·rw [if_neg hb] at z;exact z.toR
theorem SM.chg {a:Addr} {o:HO} (S:SM X ad A G₀ p dx d l1 l20 b G H ρ σ) (hf:a∈[p,dx,d,l1,l20]\/X.H₀ a=none) (ga:G a=none) (hR:RackIn X.K ad A G (upd H a o) p r' dx d l1 l2) (h2:l2=l20\/X.H₀ l2=none):
  SM X ad A G₀ p dx d l1 l20 true G (upd H a o) (ρ.set 0 (.rk A r')) σ:=by
 have hl:0<ρ.length:=by
  obtain⟨r,_,h1,_⟩:=S.rk
  exact(ax.mp h1).1
 have gh:Same G (upd H a o):=fun c u e=>by
  have ne:c≠a:=fun z=>by rw [z,ga] at e;cases e
  rw [aA ne]
  exact S.gh c u e
 refine⟨⟨by rw [List.length_set];exact S.sl.len,fun j sl e=> ?_⟩,gh,S.me,⟨r',l2,bj hl,hR,h2⟩, ?_,fun c hc=> ?_,fun j sl e=> ?_⟩
 ·cases j with
  | zero=>
   rw [bj hl] at e
   cases e
   exact⟨_,S.me,p,dx,d,l1,l2,rfl,hR⟩
  | succ j=>
   rw [ba (by omega)] at e
   obtain⟨ov,k1,k2⟩:=S.sl.at_ _ sl e
   have hs:=S.on j sl e
   refine⟨ov,k1, ?_⟩
   cases sl with
   | no=>trivial
   | sh d=>exact k2
   | _=>cases hs
 ·show StB true _ _ _ _ _
  unfold StB
  rw [if_pos rfl]
  have z:=S.toR
  refine⟨z.sg,gh,fun c u hc e=> ?_,z.nw,fun c hc=>by
   by_cases q:c=a
   ·subst q;rw [aE];exact fun z=>nomatch z
   ·rw [aA q];exact S.fr c hc⟩
  have ne:c≠a:=fun q=>by
   subst q
   rcases hf with hf | hf
   ·exact hc hf
   ·rw [hf] at e;cases e
  rw [aA ne]
  exact z.sh c u hc e
 ·by_cases q:c=a
  ·subst q;rw [aE];exact fun z=>nomatch z
  ·rw [aA q];exact S.fr c hc
 ·rw [ba (by omega)] at e
  exact S.on j sl e
theorem aBp {l2:Addr} (h2:l2=l20\/X.H₀ l2=none):l2∈[p,dx,d,l1,l20]\/X.H₀ l2=none:=h2.elim (fun z=> .inl (by rw [z];simp)) .inr
theorem RackIn.list {vs:List V} (bb:Bool) (h:RackIn X.K ad A G H p r dx d l1 l2) {ds:List D} (rv:aF X.K ad G ds vs):RackIn X.K ad A G (upd H (if bb then l1 else l2) (.lst vs)) p (if bb then { r with done:=ds } else { r with undone:=ds }) dx d l1 l2:=by
 obtain⟨kvs,a1,a2⟩:=h.held
 obtain⟨v1,b1,b2⟩:=h.done
 obtain⟨v2,c1,c2⟩:=h.undone
 have np: ∀ {l:Addr} {ws:List V},H l=some (.lst ws)->p≠l/\dx≠l/\d≠l:=fun {l ws} hl=>
  ⟨(fun z=>by rw [<-z,h.ins] at hl;cases hl),(fun z=>by rw [<-z,h.own] at hl;cases hl),(fun z=>by rw [<-z,a1] at hl;cases hl)⟩
 cases bb
 ·obtain⟨q1,q2,q3⟩:=np c1
  exact⟨by show upd H l2 _ _=_;rw [aA q1];exact h.ins,by show upd H l2 _ _=_;rw [aA q2];exact h.own,⟨kvs,by show upd H l2 _ _=_;rw [aA q3];exact a1,a2⟩,⟨v1,by show upd H l2 _ _=_;rw [aA h.ne];exact b1,b2⟩,⟨vs,aE,rv⟩,h.ne,h.gp,h.gx,h.gd,h.g1,h.g2⟩
 ·obtain⟨q1,q2,q3⟩:=np b1
  exact⟨by show upd H l1 _ _=_;rw [aA q1];exact h.ins,by show upd H l1 _ _=_;rw [aA q2];exact h.own,⟨kvs,by show upd H l1 _ _=_;rw [aA q3];exact a1,a2⟩,⟨vs,aE,rv⟩,⟨v2,by show upd H l1 _ _=_;rw [aA h.ne.symm];exact c1,c2⟩,h.ne,h.gp,h.gx,h.gd,h.g1,h.g2⟩
theorem aBq (bb:Bool) (RC:RkC X.K A) (h:RackIn X.K ad A G H p r dx d l1 l2) (hi:σ[0]? =some (some (.ref p))) {Q:VK} (q:Q (.ref (if bb then l1 else l2)) H):aKi X.K (aGh 0) (if bb then "done" else "undone") σ H Q:=by
 cases bb
 ·exact fF RC h hi (fd:="undone") rfl RC.n3 q
 ·exact fF RC h hi (fd:="done") rfl RC.n2 q
theorem wI (bb:Bool) (h:RackIn X.K ad A G H p r dx d l1 l2): ∃ vs,H (if bb then l1 else l2)=some (.lst vs)/\aF X.K ad G (xF bb r) vs/\G (if bb then l1 else l2)=none:=by
 cases bb
 ·obtain⟨v2,c1,c2⟩:=h.undone;exact⟨v2,c1,c2,h.g2⟩
 ·obtain⟨v1,b1,b2⟩:=h.done;exact⟨v1,b1,b2,h.g1⟩
theorem aJt (bb:Bool) (hx: ∀ σ,XP X ad σ E) (RC:RkC X.K A) (hN:X.N[0]? =some x) (hv:Vis X.env.scope x) (hd:(x==("__debug__":Str))=false) (hcd:(x==("__classdict__":Str))=false) (he:ME X ad e f) (hs:starEach [e] X.env=(false,eval e X.env)::starEach [] X.env) (hl:(ap.endLine==cp.line)=true):
  MM X ad A E (.Expr (.Call (.Attribute (.Attribute (.Name x np) (if bb then "done" else "undone") qp) "append" ap) [e] [] cp) pos) (aMm A bb f):=by
 refine PS.imp (fH (aCj (T:="list") PySem.F.plainAttrs_list PySem.F.slot_list_append PySem.F.type_list_append fT (fB (aZ hN hv hd hcd) rfl) (bE he cL hs) rfl (hX hs) hl hs rfl) rfl) ?_
 rintro D' σ H ⟨G₀,p,dx,d,l1,l20,G,ρ,b,S,hr⟩
 obtain⟨r,e0,hr⟩:=j9 hr
 obtain⟨r1,l2,f1,hR,h2⟩:=S.rk
 rw [e0] at f1
 cases f1
 obtain⟨vs,k1,k2,k3⟩:=wI bb hR
 unfold aB5 tBM
 refine aBq bb RC hR S.me ?_
 refine⟨.inl ⟨rfl,vs,SqL.of k1⟩, ?_⟩
 refine j8 S (hx σ) hr fun v y G1 H1 S1 rv k st=> ?_
 have hR1:=hR.step st
 obtain⟨ws,m1,m2,m3⟩:=wI bb hR1
 by_cases hc:(xF bb r).length<LIM
 ·rw [if_pos hc] at k
  refine⟨_,ws,v,rfl,rfl,m1,by rw [m2.length];exact bg hc (by decide), ?_⟩
  have hf:(if bb then l1 else l2)∈[p,dx,d,l1,l20]\/X.H₀ (if bb then l1 else l2)=none:=by
   cases bb
   ·exact aBp h2
   ·exact .inl (by simp)
  refine k σ G1 _ (S1.chg (r':=aNz bb r y) hf m3 ?_ h2)
  have z:=hR1.list bb (m2.append (aF.cons rv aF.nil))
  cases bb<;>exact z
 ·rw [if_neg hc] at k
  exact k.elim
theorem aEz {i:Nat} {y:Str} {yp:Pos} (bb:Bool) (RC:RkC X.K A) (hN:X.N[0]? =some x) (hv:Vis X.env.scope x) (hd:(x==("__debug__":Str))=false) (hcd:(x==("__classdict__":Str))=false) (hl:(ap.endLine==cp.line)=true)
  (hnd:X.N.Nodup) (hi:X.N[i+1]? =some y) (hlo:Loc X.env.scope y) (hf:X.fn y=true\/X.env.scope.names.lookup y=some .local):
  MM X ad A E (.Assign [.Name y yp] (.Call (.Attribute (.Attribute (.Name x np) (if bb then "done" else "undone") qp) "pop" ap) [] [] cp) pos) (aJs A i bb):=by
 refine PS.imp (jN (i:=i+1) hnd hi hlo (aHk (T:="list") PySem.F.plainAttrs_list PySem.F.slot_list_pop PySem.F.type_list_pop aHl (fB (aZ hN hv hd hcd) rfl) rfl hl) rfl hf) ?_
 rintro D' σ H ⟨G₀,p,dx,d,l1,l20,G,ρ,b,S,hr⟩
 obtain⟨r,e0,hr⟩:=j9 hr
 obtain⟨r1,l2,f1,hR,h2⟩:=S.rk
 rw [e0] at f1
 cases f1
 obtain⟨vs,k1,k2,k3⟩:=wI bb hR
 unfold aB8 aNh
 refine aBq bb RC hR S.me ?_
 refine⟨.inl ⟨rfl,vs,SqL.of k1⟩, ?_⟩
 cases hg:(xF bb r).getLast? with
 | none=>rw [hg] at hr;exact hr.elim
 | some dl=>
  rw [hg] at hr
  have hg':(xF bb r)[(xF bb r).length - 1]? =some dl:=by rw [<-List.getLast?_eq_getElem?];exact hg
  obtain⟨v,e1,rv⟩:=k2.get hg'
  refine⟨_,vs,v,rfl,rfl,k1,by rw [k2.length];exact e1, ?_⟩
  have hf:(if bb then l1 else l2)∈[p,dx,d,l1,l20]\/X.H₀ (if bb then l1 else l2)=none:=by
   cases bb
   ·exact aBp h2
   ·exact .inl (by simp)
  have rd:aF X.K ad G (xF bb r).dropLast vs.dropLast:=by
   rw [List.dropLast_eq_take,List.dropLast_eq_take,k2.length]
   exact k2.take _
  refine hr _ G _ (SM.set (i:=i) (S.chg (r':=aN0 bb r) hf k3 ?_ h2) rv)
  have z:=hR.list bb rd
  cases bb<;>exact z
end
noncomputable def zR (A:Nat) (M:FM) (fs:List F):FSM:=fun ρ b=>mUp A ρ fun r=>aN1 b (args fs ρ) fun ds=>match M r ds with
 | .pure x=>xH b x fun _=> .nx ρ b
 | .chg _ r'=> .nx (ρ.set 0 (.rk A r')) true
section
variable {X:Cx} {ad:Ad} {A n:Nat} {G₀ G H G1 H1:Hp} {p dx d l1 l2 l20:Addr} {b:Bool} {ρ:Rho} {σ:St} {E:Nat->Hp->Prop} {D':Ends} {f g:F} {fs:List F} {e k v:Expr} {es:List Expr} {pos pos' ap cp np qp kp lp:Pos} {x m:Str} {r r':Rk} {M:FM}
theorem zS (RC:RkC X.K A) (hN:X.N[0]? =some x) (hv:Vis X.env.scope x) (hd:(x==("__debug__":Str))=false) (hcd:(x==("__classdict__":Str))=false):
  MM X ad A E (.Assign [.Attribute (.Name x np) "undone" qp] (.List [] lp) pos) (wH A):=by
 refine PS.imp (pD (aZ hN hv hd hcd) (pE cL) rfl) ?_
 rintro D' σ H ⟨G₀,p,dx,d,l1,l20,G,ρ,b,S,hr⟩
 obtain⟨r,e0,hr⟩:=j9 hr
 obtain⟨r1,l2,f1,hR,h2⟩:=S.rk
 rw [e0] at f1
 cases f1
 refine⟨bu _,fun l n=> ?_⟩
 have st:Step G H G (upd H l (.lst [])):=Step.own S.gh n
 have S1:=S.step st
 have hR1:=hR.step st
 have n0:X.H₀ l=none:=by
  cases q:X.H₀ l with
  | none=>rfl
  | some o=>exact absurd n (S.fr l (by rw [q];exact fun z=>nomatch z))
 obtain⟨kvs,a1,a2⟩:=hR1.held
 obtain⟨v1,b1,b2⟩:=hR1.done
 have el:upd H l (.lst []) l=some (.lst []):=aE
 have ne: ∀ {c:Addr} {o:HO},upd H l (.lst []) c=some o->(∀ fs,o≠ .ins A dx fs)->c≠p:=fun {c o} hc ho z=>by
  rw [z,hR1.ins] at hc
  cases hc
  exact ho _ rfl
 have nl:l1≠l:=fun z=>by
  obtain⟨w,q1,_⟩:=hR.done
  rw [z,n] at q1
  cases q1
 refine⟨.ref p,S.me,p,A,dx,_,rfl,hR1.ins,RC.cl,RC.n3,by show 3<1000;decide, ?_⟩
 refine hr σ G _ (S1.chg (r':={ r with undone:=[] }) (l2:=l) (.inl (by simp)) hR1.gp ?_ (.inr n0))
 exact⟨aE,by rw [aA (ne hR1.own fun _ z=>nomatch z)];exact hR1.own,⟨kvs,by rw [aA (ne a1 fun _ z=>nomatch z)];exact a1,a2⟩,⟨v1,by rw [aA (ne b1 fun _ z=>nomatch z)];exact b1,b2⟩,
  ⟨[],by rw [aA (ne el fun _ z=>nomatch z)];exact el,aF.nil⟩,nl,hR1.gp,hR1.gx,hR1.gd,hR1.g1,S.gh.free n⟩
theorem aJu {K:Frag} {held:List (Str×D)} {kvs:List (L2.Key×V)} (h:HR K ad G held kvs) (x:Str):(kvs.any fun q=>decide (q.1=(Sum.inr x:L2.Key)))=held.any fun p=>decide (p.1=x):=by
 induction h with
 | nil=>rfl
 | @cons p q ps qs hq t ih=>
  rw [List.any_cons,List.any_cons,ih]
  have e:decide (q.1=(Sum.inr x:L2.Key))=decide (p.1=x):=by
   rw [hq.1]
   by_cases z:p.1=x
   ·rw [z];simp
   ·simp [z]
  rw [e]
theorem aJv {K:Frag} {held:List (Str×D)} {kvs:List (L2.Key×V)} {y:D} {v:V} (h:HR K ad G held kvs) (rv:Rep K ad G y v) (x:Str):HR K ad G (aKw held x y) (L2.putK kvs (Sum.inr x) v):=by
 unfold aKw L2.putK
 rw [aJu h x]
 by_cases hc:(held.any fun p=>decide (p.1=x))=true
 ·rw [if_pos hc,if_pos hc]
  clear hc
  induction h with
  | nil=>exact .nil
  | @cons p q ps qs hq t ih=>
   rw [List.map_cons,List.map_cons]
   refine .cons ?_ ih
   by_cases z:p.1=x
   ·have z':q.1=(Sum.inr x:L2.Key):=by rw [hq.1,z]
    rw [if_pos z,if_pos z']
    exact⟨hq.1,rv⟩
   ·have z': ¬ q.1=(Sum.inr x:L2.Key):=fun y=>z (by rw [hq.1] at y;exact Sum.inr.inj y)
    rw [if_neg z,if_neg z']
    exact hq
 ·rw [if_neg hc,if_neg hc]
  clear hc
  induction h with
  | nil=>exact .cons ⟨rfl,rv⟩ .nil
  | cons hq t ih=>exact .cons hq ih
theorem aE0 {K:Frag} {held:List (Str×D)} {kvs:List (L2.Key×V)} (h:HR K ad G held kvs) (x:Str):HR K ad G (zQ held x) (L2.dropK kvs (Sum.inr x)):=by
 unfold zQ L2.dropK
 induction h with
 | nil=>exact .nil
 | @cons p q ps qs hq t ih=>
  rw [List.filter_cons,List.filter_cons]
  by_cases z:p.1=x
  ·have z':q.1=(Sum.inr x:L2.Key):=by rw [hq.1,z]
   simp only [z,z',ne_eq,not_true_eq_false,decide_false,ay,if_false]
   exact ih
  ·have z': ¬ q.1=(Sum.inr x:L2.Key):=fun y=>z (by rw [hq.1] at y;exact Sum.inr.inj y)
   simp only [z,z',ne_eq,not_false_eq_true,decide_true,if_true]
   exact .cons hq ih
theorem RackIn.dict {kvs:List (L2.Key×V)} {held:List (Str×D)} (h:RackIn X.K ad A G H p r dx d l1 l2) (rv:HR X.K ad G held kvs):RackIn X.K ad A G (upd H d (.dK kvs)) p { r with held:=held } dx d l1 l2:=by
 obtain⟨kvs0,a1,a2⟩:=h.held
 obtain⟨v1,b1,b2⟩:=h.done
 obtain⟨v2,c1,c2⟩:=h.undone
 have ne: ∀ {c:Addr} {o:HO},H c=some o->(∀ fs,o≠ .dK fs)->c≠d:=fun {c o} hc ho z=>by
  rw [z,a1] at hc
  cases hc
  exact ho _ rfl
 exact⟨by rw [aA (ne h.ins fun _ z=>nomatch z)];exact h.ins,by rw [aA (ne h.own fun _ z=>nomatch z)];exact h.own,⟨kvs,aE,rv⟩,⟨v1,by rw [aA (ne b1 fun _ z=>nomatch z)];exact b1,b2⟩,
  ⟨v2,by rw [aA (ne c1 fun _ z=>nomatch z)];exact c1,c2⟩,h.ne,h.gp,h.gx,h.gd,h.g1,h.g2⟩
theorem aE1 (hu:X.A.units+62<cLine) (hx: ∀ σ,XP X ad σ E) (RC:RkC X.K A) (hN:X.N[0]? =some x) (hv:Vis X.env.scope x) (hd:(x==("__debug__":Str))=false) (hcd:(x==("__classdict__":Str))=false) (hk:ME X ad k f) (hw:ME X ad v g) (hs:swapsWith v (some (.Subscript (.Attribute (.Name x np) "held" qp) k kp)) pos.line X.env=pure false):
  MM X ad A E (.Assign [.Subscript (.Attribute (.Name x np) "held" qp) k kp] v pos) (aEx A f g):=by
 refine PS.imp (aEi (by omega) (fB (aZ hN hv hd hcd) rfl) hk hw hs) ?_
 rintro D' σ H ⟨G₀,p,dx,d,l1,l20,G,ρ,b,S,hr⟩
 refine j8 S (hx σ) hr fun w y G1 H1 S1 rw_ hr1 st=> ?_
 obtain⟨r,e0,hr1⟩:=j9 hr1
 obtain⟨r1,l2,f1,hR,h2⟩:=S1.rk
 rw [e0] at f1
 cases f1
 refine fF RC hR S1.me (fd:="held") rfl RC.n1 ?_
 refine j8 S1 (hx σ) hr1 fun u z G2 H2 S2 ru k2 st2=> ?_
 cases z with
 | str q=>
  unfold Rep at ru
  subst ru
  have hR2:=hR.step st2
  obtain⟨kvs,a1,a2⟩:=hR2.held
  have hl:kvs.length=r.held.length:=(Paired.length a2).symm
  have k3:OKm X ad A G₀ p dx d l1 l20 (if r.held.length<LIM then setR A ρ { r with held:=aKw r.held q y } else .bad) D' E:=k2
  by_cases hc:r.held.length<LIM
  ·rw [if_pos hc] at k3
   refine⟨d,_,rfl,aJc.k (k:=Sum.inr q) a1 (by rw [hl];exact bg hc (by decide)), ?_⟩
   exact k3 σ G2 _ (S2.chg (.inl (by simp)) hR2.gd (hR2.dict (aJv a2 (rw_.mono st2.sg) q)) h2)
  ·rw [if_neg hc] at k3
   exact k3.elim
 | _=>exact k2.elim
theorem aE2 (hx: ∀ σ,XP X ad σ E) (RC:RkC X.K A) (hN:X.N[0]? =some x) (hv:Vis X.env.scope x) (hd:(x==("__debug__":Str))=false) (hcd:(x==("__classdict__":Str))=false) (hk:ME X ad k f) (hm:M1 X (.Attribute (.Name x np) "held" qp) "pop" ap k cp):
  MM X ad A E (.Expr (.Call (.Attribute (.Attribute (.Name x np) "held" qp) "pop" ap) [k] [] cp) pos) (aEy A f):=by
 refine PS.imp (fH (zG (fB (aZ hN hv hd hcd) rfl) hk hm) rfl) ?_
 rintro D' σ H ⟨G₀,p,dx,d,l1,l20,G,ρ,b,S,hr⟩
 obtain⟨r,e0,hr⟩:=j9 hr
 obtain⟨r1,l2,f1,hR,h2⟩:=S.rk
 rw [e0] at f1
 cases f1
 obtain⟨kvs0,a0,_⟩:=hR.held
 unfold aB5 aBk
 refine fF RC hR S.me (fd:="held") rfl RC.n1 ⟨d,rfl, .inl ⟨kvs0, .inl a0⟩, ?_⟩
 refine j8 S (hx σ) hr fun u z G2 H2 S2 ru k2 st2=> ?_
 cases z with
 | str q=>
  unfold Rep at ru
  subst ru
  have hR2:=hR.step st2
  obtain⟨kvs,a1,a2⟩:=hR2.held
  have hh:=iB a2 q
  have k3:OKm X ad A G₀ p dx d l1 l20 (if(n6 r.held q).isSome=true then setR A ρ { r with held:=zQ r.held q } else .bad) D' E:=k2
  cases hq:n6 r.held q with
  | none=>rw [hq] at k3;exact k3.elim
  | some dd=>
   rw [hq] at k3 hh
   obtain⟨v,e1,_⟩:=hh
   refine⟨kvs,Sum.inr q,v,a1,rfl,e1, ?_⟩
   exact k3 σ G2 _ (S2.chg (.inl (by simp)) hR2.gd (hR2.dict (aE0 a2 q)) h2)
 | _=>exact k2.elim
theorem aE3 {k:List D->OutM} {Q':List V->Hp->Prop} (S:SM X ad A G₀ p dx d l1 l20 b G H ρ σ) (hx:XP X ad σ E) (hr:OKm X ad A G₀ p dx d l1 l20 (aN1 b (args fs ρ) k) D' E)
  (q: ∀ vs ds G1 H1,SM X ad A G₀ p dx d l1 l20 b G1 H1 ρ σ->aF X.K ad G1 ds vs->ds.length=fs.length->OKm X ad A G₀ p dx d l1 l20 (k ds) D' E->Step G H G1 H1->Q' vs H1):tA X ad fs σ H Q':=by
 refine⟨G,ρ,E,S.gh,S.sl,hx, ?_⟩
 cases e:args fs ρ with
 | ok ds=>
  rw [e] at hr
  exact fun vs G1 H1 t r=>q vs ds G1 H1 (S.step t) r (fV e) hr t
 | ex c=>
  rw [e] at hr
  obtain⟨hb,hr⟩:=hr
  have z:=S.st
  unfold StB at z
  rw [hb,if_neg bf] at z
  exact fun G1 H1 t=>hr G1 H1 (z.trans t)
 | bad=>
  rw [e] at hr
  exact hr
theorem SM.call {l2':Addr} (S:SM X ad A G₀ p dx d l1 l20 b G H ρ σ) (h2:l2=l20\/X.H₀ l2=none) (t:StepR [p,dx,d,l1,l2] G H G1 H1) (hR:RackIn X.K ad A G1 H1 p r' dx d l1 l2') (h3:l2'=l2\/H l2'=none):SM X ad A G₀ p dx d l1 l20 true G1 H1 (ρ.set 0 (.rk A r')) σ:=by
 have hl:0<ρ.length:=by
  obtain⟨r,_,h1,_⟩:=S.rk
  exact(ax.mp h1).1
 have none0: ∀ c,H c=none->X.H₀ c=none:=fun c hc=>by
  cases q:X.H₀ c with
  | none=>rfl
  | some o=>exact absurd hc (S.fr c (by rw [q];exact fun z=>nomatch z))
 refine⟨⟨by rw [List.length_set];exact S.sl.len,fun j sl e=> ?_⟩,t.gh,S.me,⟨r',l2',bj hl,hR, ?_⟩, ?_,fun c hc=>t.th c (S.fr c hc),fun j sl e=> ?_⟩
 ·cases j with
  | zero=>
   rw [bj hl] at e
   cases e
   exact⟨_,S.me,p,dx,d,l1,l2',rfl,hR⟩
  | succ j=>
   rw [ba (by omega)] at e
   obtain⟨ov,k1,k2⟩:=S.sl.at_ _ sl e
   have hs:=S.on j sl e
   refine⟨ov,k1, ?_⟩
   cases sl with
   | no=>trivial
   | sh d=>
    obtain⟨v,q1,q2⟩:=k2
    exact⟨v,q1,q2.mono t.sg⟩
   | _=>cases hs
 ·rcases h3 with rfl | h3
  ·exact h2
  ·exact .inr (none0 _ h3)
 ·show StB true _ _ _ _ _
  unfold StB
  rw [if_pos rfl]
  have z:=S.toR
  refine⟨z.sg.trans t.sg,t.gh,fun c u hc e=>t.sh c u (fun m=> ?_) (z.sh c u hc e),fun c g1 g2=> ?_,fun c hc=>t.th c (S.fr c hc)⟩
  ·simp only [au,List.not_mem_nil,or_false,not_or] at m hc
   rcases m with m | m | m | m | m
   ·exact hc.1 m
   ·exact hc.2.1 m
   ·exact hc.2.2.1 m
   ·exact hc.2.2.2.1 m
   ·rcases h2 with h2 | h2
    ·exact hc.2.2.2.2 (m.trans h2)
    ·rw [m,h2] at e;cases e
  ·cases q:G c with
   | none=>exact none0 c (t.nw c q g2)
   | some o=>exact z.nw c g1 (by rw [q];exact fun y=>nomatch y)
 ·rw [ba (by omega)] at e
  exact S.on j sl e
theorem zT (S:SM X ad A G₀ p dx d l1 l20 b G H ρ σ) (h2:l2=l20\/X.H₀ l2=none) {R':RM} (hr:OKm X ad A G₀ p dx d l1 l20 (match R' with | .pure x=>xH b x fun _=> .nx ρ b | .chg _ r'=> .nx (ρ.set 0 (.rk A r')) true) D' E):
  RMK X.K ad A G H p dx d l1 l2 R' (fun _ H1=>D'.nx σ H1) E:=by
 cases R' with
 | pure x=>
  have hr':OKm X ad A G₀ p dx d l1 l20 (xH b x fun _=> .nx ρ b) D' E:=hr
  cases x with
  | ok y=>exact fun v G1 H1 t _=>hr' σ G1 H1 (S.step t)
  | ow xs=>exact fun q vs G1 H1 t _ _ _ _=>hr' σ G1 H1 (S.step t)
  | ex c=>
   obtain⟨hb,hr2⟩:=hr'
   have z:=S.st
   unfold StB at z
   rw [hb,if_neg bf] at z
   exact fun G1 H1 t=>hr2 G1 H1 (z.trans t)
  | bad=>exact hr'.elim
 | chg x r'=>exact fun v G' H' l2' t hR h3 _=>hr σ G' H' (S.call h2 t hR h3)
theorem aE4 (hx: ∀ σ,XP X ad σ E) (RC:RkC X.K A) (M0:MetOk X ad A m n M) (hN:X.N[0]? =some x) (hv:Vis X.env.scope x) (hd:(x==("__debug__":Str))=false) (hcd:(x==("__classdict__":Str))=false) (ha:MA X ad (e::es) fs) (hn:fs.length=n)
  (hst:starEach (e::es) X.env=(false,eval e X.env)::starEach es X.env) (hpl:(backTo cp (starEach es X.env)).any (·.1)=false) (hfm:methodCallForm ((e::es).length+([]:List Keyword).length) (backTo cp (starEach (e::es) X.env)) (backToKw cp (keywordEach [] X.env))=true) (hln:(ap.endLine==cp.line)=true):
  MM X ad A E (.Expr (.Call (.Attribute (.Name x np) m ap) (e::es) [] cp) pos) (zR A M fs):=by
 intro pins s σ H D' I ⟨G₀,p,dx,d,l1,l20,G,ρ,b,S,hr⟩
 obtain⟨r,e0,hr⟩:=j9 hr
 obtain⟨r1,l2,f1,hR,h2⟩:=S.rk
 rw [e0] at f1
 cases f1
 have main:wpAny (model X.prog X.w) X.A (eval (.Call (.Attribute (.Name x np) m ap) (e::es) [] cp) X.env) (EP X pins σ fun _ H1=>D'.nx σ H1) X.xe s:=by
  obtain⟨fm,k,fd,ps,hm,_⟩:=M0.ok
  refine PySem.W.methodCall_KW (L2.thn (aZ hN hv hd hcd pins s σ H (fun v H1=>v= .ref p/\H1=H) I ⟨.ref p,S.me,rfl,rfl⟩) fun u s1 hz_=> ?_) (fY rfl hfm hln)
  obtain⟨v,H1,I1,r1,e1,e2⟩:=hz_
  subst e1;subst e2
  cases (show u=Value.ref p from r1)
  refine eS I1 hR.ins RC.cl hm (qO M0.no) ?_
  refine PySem.W.callWith_K (first:=[.ref p]) (h₀:=X.base) I1.ok.mod.kin hm.kp (L2.thn (ha cp pins s1 σ H1 (fun vs H2=> ∃ ds G1,Step G H1 G1 H2/\aF X.K ad G1 ds vs/\ds.length=fs.length/\RMK X.K ad A G1 H2 p dx d l1 l2 (M r ds) (fun _ H3=>D'.nx σ H3) E) I1
   (aE3 S (hx σ) hr fun vs ds G1 H2 S1 rq hl k st=>⟨ds,G1,st,rq,hl,zT S1 h2 k⟩)) fun us s2 ⟨vs,H2,I2,r2,ds,G1,st,rq,hl,k⟩=>⟨I2.kIn, ?_⟩) hst hpl
  exact i7 M0 I2 st.gh (hR.step st) r2 rq (hl.trans hn) (hx σ) k hm
 exact wpAny_Expr_any (L2.thn main fun v s1 ⟨y,H1,I1,r1,q1⟩=>⟨σ,H1,I1,q1⟩) I.quiet rfl
end
structure CA where
 o:Expr
 m:Str
 ap:Pos
 as:List Expr
 cp:Pos
noncomputable def qW:Expr->Option CA
 | .Call f as kws cp=>if kws.isEmpty then(x6 f).bind fun(o,m,ap)=>if(ap.endLine==cp.line)=true then some ⟨o,m,ap,as,cp⟩ else none else none
 | _=>none
theorem zU {e o:Expr} {f:Str} {q:Pos} (h:x6 e=some (o,f,q)):e= .Attribute o f q:=by
 cases e<;>first | (cases h;rfl) | (cases h;done)
theorem i9 {e:Expr} {c:CA} (h:qW e=some c):e= .Call (.Attribute c.o c.m c.ap) c.as [] c.cp/\(c.ap.endLine==c.cp.line)=true:=by
 cases e<;>try (cases h;done)
 rename_i f as kws cp
 have h':(if kws.isEmpty then(x6 f).bind fun(o,m,ap)=>if(ap.endLine==cp.line)=true then some (⟨o,m,ap,as,cp⟩:CA) else none else none)=some c:=h
 by_cases hk:kws.isEmpty=true
 ·rw [if_pos hk] at h'
  obtain⟨⟨o,m,ap⟩,h1,h2⟩:=zBd h'
  have h3:(if(ap.endLine==cp.line)=true then some (⟨o,m,ap,as,cp⟩:CA) else none)=some c:=h2
  by_cases hl:(ap.endLine==cp.line)=true
  ·rw [if_pos hl] at h3
   cases h3
   cases zU h1
   cases List.isEmpty_iff.mp hk
   exact⟨rfl,hl⟩
  ·rw [if_neg hl] at h3;cases h3
 ·rw [if_neg hk] at h';cases h'
noncomputable def aJw:Option Nat->Option Nat
 | some (i+1)=>some i
 | _=>none
theorem zV {o:Option Nat} {i:Nat} (h:aJw o=some i):o=some (i+1):=by
 cases o with
 | none=>cases h
 | some j=>cases j with
  | zero=>cases h
  | succ j=>cases h;rfl
noncomputable def aBr:Expr->Bool
 | .List es _=>es.isEmpty
 | _=>false
theorem wJ {e:Expr} (h:aBr e=true): ∃ p,e= .List [] p:=by
 cases e<;>try (cases h;done)
 rename_i es p
 cases List.isEmpty_iff.mp (show es.isEmpty=true from h)
 exact⟨p,rfl⟩
noncomputable def aN2 (C:SK.Ctx) (e:Expr):Option Bool:=(qW e).bind fun c=>if c.m="pop"/\c.as.isEmpty=true then(aF5 C c.o).bind fun(i,bb)=>if i=0 then some bb else none else none
theorem aE5 {C:SK.Ctx} {e:Expr} {bb:Bool} (h:aN2 C e=some bb): ∃ x np qp ap cp,e= .Call (.Attribute (.Attribute (.Name x np) (if bb then "done" else "undone") qp) "pop" ap) [] [] cp/\(ap.endLine==cp.line)=true/\loc C x=some 0:=by
 have hx:=zBd h
 clear h
 obtain⟨c,h1,h⟩:=hx
 obtain⟨rfl,hl⟩:=i9 h1
 clear h1
 obtain⟨o,m,ap,as,cp⟩:=c
 simp only at h hl ⊢
 split at h
 ·rename_i hc
  obtain⟨rfl,he⟩:=hc
  cases List.isEmpty_iff.mp he
  obtain⟨⟨i,b2⟩,h2,h3⟩:=zBd h
  have h4:(if i=0 then some b2 else none)=some bb:=h3
  by_cases hi:i=0
  ·rw [if_pos hi] at h4
   cases h4
   subst hi
   obtain⟨x,p,q,rfl,e1⟩:=lG h2
   exact⟨x,p,q,ap,cp,rfl,hl,e1⟩
  ·rw [if_neg hi] at h4;cases h4
 ·cases h
noncomputable def aMn (A:Nat) (C:SK.Ctx) (t e:Expr):Option FSM:=match t with
 | .Name x _=>(aJw (loc C x)).bind fun i=>(match aN2 C e with
  | some bb=>some (aJs A i bb)
  | none=>(bA 50 C e).map fun f=>aMk i f)
 | .Attribute o f q=>if atF C "undone" (.Attribute o f q)=some 0/\aBr e=true then some (wH A) else none
 | .Subscript o k _=>if atF C "held" o=some 0 then(bA 50 C k).bind fun f=>(bJ e).bind fun(y,py)=>(bA 50 C (.Name y py)).map fun g=>aEx A f g else none
 | _=>none
noncomputable def aMo (A:Nat) (ms:List (Str×Nat×FM)) (C:SK.Ctx) (e:Expr):Option FSM:=match qW e with
 | some c=>(match bJ c.o with
  | some (x,_)=>if loc C x=some 0 then(ms.lookup c.m).bind fun(n,M)=>if c.as.length<20/\c.as.isEmpty=false then(dO (bA 50 C) c.as).bind fun fs=>if fs.length=n then some (zR A M fs) else none else none else none
  | none=>(match aF5 C c.o with
   | some (i,bb)=>if i=0/\c.m="append" then(one c.as).bind fun a=>(bA 50 C a).map fun f=>aMm A bb f else none
   | none=>if atF C "held" c.o=some 0/\c.m="pop" then(one c.as).bind fun a=>(bA 50 C a).map fun f=>aEy A f else none))
 | none=>(match e with
  | .Call f as kws cp=>if kws.isEmpty then(bA 50 C (.Call f as [] cp)).map wF else none
  | _=>none)
noncomputable def aE6 (C:SK.Ctx) (x:Option Expr):Option FSM:=x.bind fun e=>(match e with
 | .Call f as kws _=>if kws.isEmpty then(bJ f).bind fun(x,_)=>(one as).bind fun a=>if aCt a then(match loc C x,glo C x with
  | none,some (.exc c)=>some (wG c)
  | _,_=>none) else none else none
 | _=>none)
noncomputable def isN {α:Type}:Option α->Bool
 | none=>true
 | some _=>false
mutual
noncomputable def mS:Nat->Nat->List (Str×Nat×FM)->SK.Ctx->Stmt->Option FSM
 | 0,_,_,_,_=>none
 | n+1,A,ms,C,st=>match st with
  | .Pass _=>some fO
  | .If c a b _=>(bA 50 C c).bind fun f=>(mSs n A ms C a).bind fun g=>(mSs n A ms C b).map fun h=>mIf f g h
  | .Return e _=>e.bind fun e=>(bA 50 C e).map aBo
  | .Raise x c _=>if isN c then aE6 C x else none
  | .Assign ts e _=>(one ts).bind fun t=>aMn A C t e
  | .Expr e _=>aMo A ms C e
  | _=>none
noncomputable def mSs:Nat->Nat->List (Str×Nat×FM)->SK.Ctx->List Stmt->Option FSM
 | 0,_,_,_,_=>none
 | n+1,A,ms,C,l=>match l with
  | []=>some fO
  | st::r=>(mS n A ms C st).bind fun g=>(mSs n A ms C r).map fun h=>jF g h
end
section
variable {X:Cx} {ad:Ad} {A:Nat} {C:SK.Ctx} {E:Nat->Hp->Prop} {E₀:XK} {ms:List (Str×Nat×FM)} {e t:Expr} {g:FSM} {pos:Pos}
structure MeOk (X:Cx) (ad:Ad) (A:Nat) (ms:List (Str×Nat×FM)) (C:SK.Ctx) (E:Nat->Hp->Prop) (E₀:XK):Prop where
 O:StOk X ad C
 T:DefX X E₀
 hx: ∀ σ,XP X ad σ E
 hE: ∀ c H,E c H->E₀ (.ref (ad.cls c)) none H
 RC:RkC X.K A
 MO: ∀ m n M,ms.lookup m=some (n,M)->MetOk X ad A m n M
theorem aE7 (L:MeOk X ad A ms C E E₀) (h:aMn A C t e=some g):MM X ad A E (.Assign [t] e pos) g:=by
 obtain⟨kE,kL,kI⟩:=dQ (ad:=ad) 50
 unfold aMn at h
 split at h
 ·rename_i y py
  have hx:=zBd h
  clear h
  obtain⟨i,h1,h⟩:=hx
  have h1':=zV h1
  have nm:=L.O.nm h1'
  split at h
  ·rename_i bb hp
   cases h
   obtain⟨x,np,qp,ap,cp,rfl,hl,e1⟩:=aE5 hp
   obtain⟨v1,v2,v3,v4⟩:=L.O.cx.vis x 0 e1
   exact aEz bb L.RC v1 v2 v3 v4 hl L.O.cx.nd nm.1 nm.2.1 nm.2.2
  ·obtain⟨f,h2,rfl⟩:=zMd h
   refine PS.imp (wA L.O h2 h1') ?_
   rintro D' σ H ⟨G₀,p,dx,d,l1,l20,G,ρ,b,S,hr⟩
   exact j8 S (L.hx σ) hr fun v x G1 H1 S1 r k _=>k _ G1 H1 (S1.set r)
 ·rename_i o f q
  split at h
  ·rename_i hc
   cases h
   obtain⟨x,np,qp,e1,e2⟩:=f8 hc.1
   cases e1
   obtain⟨lp,rfl⟩:=wJ hc.2
   obtain⟨v1,v2,v3,v4⟩:=L.O.cx.vis x 0 e2
   exact zS L.RC v1 v2 v3 v4
  ·cases h
 ·rename_i o k kp
  split at h
  ·rename_i hc
   obtain⟨x,np,qp,rfl,e2⟩:=f8 hc
   obtain⟨v1,v2,v3,v4⟩:=L.O.cx.vis x 0 e2
   have hx:=zBd h
   clear h
   obtain⟨f,h1,h⟩:=hx
   have hx:=zBd h
   clear h
   obtain⟨⟨y,py⟩,h2,h⟩:=hx
   cases aM h2
   obtain⟨g',h3,rfl⟩:=zMd h
   exact aE1 L.O.cx.un L.hx L.RC v1 v2 v3 v4 (kE X C _ f L.O.cx h1).1 (kE X C _ g' L.O.cx h3).1 rfl
  ·cases h
 ·cases h
theorem aE8 (L:MeOk X ad A ms C E E₀) (h:aMo A ms C e=some g):MM X ad A E (.Expr e pos) g:=by
 obtain⟨kE,kL,kI⟩:=dQ (ad:=ad) 50
 unfold aMo at h
 split at h
 ·rename_i c hc
  obtain⟨rfl,hl⟩:=i9 hc
  obtain⟨o,m,ap,as,cp⟩:=c
  simp only at h hl ⊢
  split at h
  ·rename_i x np hv
   cases aM hv
   split at h
   ·rename_i e1
    obtain⟨v1,v2,v3,v4⟩:=L.O.cx.vis x 0 e1
    have hx:=zBd h
    clear h
    obtain⟨⟨n0,M⟩,h2,h⟩:=hx
    simp only at h
    split at h
    ·rename_i hlen
     have hx:=zBd h
     clear h
     obtain⟨fs,h3,h⟩:=hx
     split at h
     ·rename_i hn
      cases h
      obtain⟨ma,ns⟩:=oX kE L.O.cx h3
      cases as with
      | nil=>exact absurd hlen.2 (by simp)
      | cons a r=>exact aE4 L.hx L.RC (L.MO m n0 M h2) v1 v2 v3 v4 ma hn (aJ (ns a (.head _))) (lH fun e he=>ns e (.tail _ he)) (oZ ns hlen.1) hl
     ·cases h
    ·cases h
   ·cases h
  ·split at h
   ·rename_i i bb hf
    split at h
    ·rename_i hc2
     obtain⟨rfl,rfl⟩:=hc2
     have hx:=zBd h
     clear h
     obtain⟨a,h1,h⟩:=hx
     cases bU h1
     obtain⟨f,h2,rfl⟩:=zMd h
     obtain⟨x,np,qp,rfl,e1⟩:=lG hf
     obtain⟨v1,v2,v3,v4⟩:=L.O.cx.vis x 0 e1
     exact aJt bb L.hx L.RC v1 v2 v3 v4 (kE X C _ f L.O.cx h2).1 (aJ (aI h2).1) hl
    ·cases h
   ·split at h
    ·rename_i hc2
     obtain⟨hf,rfl⟩:=hc2
     have hx:=zBd h
     clear h
     obtain⟨a,h1,h⟩:=hx
     cases bU h1
     obtain⟨f,h2,rfl⟩:=zMd h
     obtain⟨x,np,qp,rfl,e1⟩:=f8 hf
     obtain⟨v1,v2,v3,v4⟩:=L.O.cx.vis x 0 e1
     refine aE2 L.hx L.RC v1 v2 v3 v4 (kE X C _ f L.O.cx h2).1 ⟨rfl, ?_,hl, ?_⟩
     ·rw [aJ (aI h2).1];rfl
     ·rw [aJ (aI h2).1];rfl
    ·cases h
 ·split at h
  ·rename_i f as kws cp
   split at h
   ·rename_i hk
    cases List.isEmpty_iff.mp hk
    obtain⟨f',h1,rfl⟩:=zMd h
    exact aEw L.hx (kE X C _ f' L.O.cx h1).1 rfl
   ·cases h
  ·cases h
theorem zW (L:MeOk X ad A ms C E E₀) {x:Option Expr} (h:aE6 C x=some g):MM X ad A E (.Raise x none pos) g:=by
 unfold aE6 at h
 have hx:=zBd h
 clear h
 obtain⟨e,rfl,h⟩:=hx
 split at h
 ·rename_i f' as kws cp
  split at h
  ·rename_i hkw
   cases dH hkw
   have hx:=zBd h
   clear h
   obtain⟨⟨x,p⟩,hv,h⟩:=hx
   cases aM hv
   have hx:=zBd h
   clear h
   obtain⟨a,ho,h⟩:=hx
   cases bU ho
   split at h
   ·rename_i hstr
    obtain⟨sx,k1,k2,rfl⟩:=qR hstr
    split at h
    ·rename_i c e1 e2
     cases h
     obtain⟨g1,g2,g3,g4⟩:=L.O.cx.gl e2
     exact zP L.T L.O.cx.calm g1 g3 g2 (L.O.exi c) L.hE
    ·cases h
   ·cases h
  ·cases h
 ·cases h
theorem aBs (L:MeOk X ad A ms C E E₀): ∀ n:Nat,(∀ st g,mS n A ms C st=some g->MM X ad A E st g)/\ ∀ l g,mSs n A ms C l=some g->MMs X ad A E l g
 | 0=>⟨(fun _ _ h=>by cases h),(fun _ _ h=>by cases h)⟩
 | n+1=>by
  obtain⟨hS,hSs⟩:=aBs L n
  obtain⟨kE,kL,kI⟩:=dQ (ad:=ad) 50
  refine⟨fun st g h=> ?_,fun l g h=> ?_⟩
  ·unfold mS at h
   split at h
   ·cases h;exact aEu
   ·obtain⟨f,h1,h⟩:=zBd h
    obtain⟨ga,h2,h⟩:=zBd h
    obtain⟨gb,h3,rfl⟩:=zMd h
    exact aMl L.hx (kE X C _ f L.O.cx h1).2.1 (hSs _ ga h2) (hSs _ gb h3)
   ·have hx:=zBd h
    clear h
    obtain⟨e,rfl,h⟩:=hx
    obtain⟨f,h1,rfl⟩:=zMd h
    exact aJr L.hx (kE X C _ f L.O.cx h1).1
   ·rename_i x c pos
    split at h
    ·rename_i hc
     cases c with
     | some _=>cases hc
     | none=>exact zW L h
    ·cases h
   ·have hx:=zBd h
    clear h
    obtain⟨t,h1,h⟩:=hx
    cases bU h1
    exact aE7 L h
   ·exact aE8 L h
   ·cases h
  ·unfold mSs at h
   split at h
   ·cases h;exact aEv
   ·obtain⟨ga,h1,h⟩:=zBd h
    obtain⟨gb,h2,rfl⟩:=zMd h
    exact zO (hS _ ga h1) (hSs _ gb h2)
end
noncomputable def zX (A:Nat) (ρ:Rho) (x:D):RM:=match(ρ[0]? :Option Slot) with
 | some (.rk C r)=>if C=A then .chg x r else .pure .bad
 | _=> .pure .bad
noncomputable def aJx (A:Nat):OutM->RM
 | .rt (.ok x) ρ b=>if b then zX A ρ x else .pure (.ok x)
 | .rt (.ow xs) _ b=>if b then .pure .bad else .pure (.ow xs)
 | .rt _ _ _=> .pure .bad
 | .nx ρ b=>if b then zX A ρ .non else .pure (.ok .non)
 | .ex c b=>if b then .pure .bad else .pure (.ex c)
 | .bad=> .pure .bad
noncomputable def xI (A N:Nat) (g:FSM):FM:=fun r ds=>aJx A (g (.rk A r::(ds.map Slot.sh++ak (N - (ds.length+1)) .no)) false)
noncomputable def aJy (tab:List (Str×SK.Gl)) (A:Nat) (ms:List (Str×Nat×FM)) (st:Stmt):Option (Nat×FM):=match st with
 | .FunctionDef _ as b _ _ _ sc _ _ _=>(eM as).bind fun ps=>if bS (aC sc) ps sc then(mSs 100 A ms ⟨tab,[],sc,aC sc,[]⟩ b).map fun g=>(ps.length - 1,xI A (aC sc).length g) else none
 | _=>none
theorem SL.cons {K:Frag} {ad:Ad} {G H:Hp} {ρ:Rho} {σ:St} {s:Slot} {ov:Option V} (h:SL K ad G H ρ σ) (h0:SLi K ad G H s ov):SL K ad G H (s::ρ) (ov::σ):=
 ⟨by simp [h.len],fun i sl e=>by
  cases i with
  | zero=>cases e;exact⟨ov,rfl,h0⟩
  | succ i=>exact h.at_ i sl e⟩
section
variable {P:Program} {w:World} {K:Frag} {mg:Str->Option Value} {base:Heap} {ad:Ad} {k:Nat} {tab:List (Str×SK.Gl)}
theorem aJz {x qual:Str} {st:Stmt} {f:Addr} {fd:FuncData} {A n:Nat} {ms:List (Str×Nat×FM)} {M:FM} {self:Str} {ps:List Str} (B:ExcK K ad) (TB:cU P w K mg base ad k tab) (RC:RkC K A)
  (MO: ∀ m n M,ms.lookup m=some (n,M)->(m≠"held"/\m≠"done"/\m≠"undone")/\ ∃ f r fd ps,r<=k/\Meth K A m f/\FnOk P w K mg base (CXe P w) r f fd ps (spM K ad A n M)/\eK K fd ps [])
  (Fu:Fun K x qual st f fd) (hps:eM (defArgs st)=some (self::ps)) (hd:aJy tab A ms st=some (n,M)):FnOk P w K mg base (CXe P w) (k+1) f fd (self::ps) (spM K ad A n M):=by
 obtain⟨oc,od,kV,doc,pm,an,cdv,ct,osl,rfl,lk,hcd⟩:=Fu.ex
 cases st with
 | FunctionDef nm as b dl re tp sc ts bi pos=>
  have hd':((eM as).bind fun ps=>if bS (aC sc) ps sc then(mSs 100 A ms ⟨tab,[],sc,aC sc,[]⟩ b).map fun g=>(ps.length - 1,xI A (aC sc).length g) else none)=some (n,M):=hd
  have hps':eM as=some (self::ps):=hps
  rw [hps'] at hd'
  have hd2:(if bS (aC sc) (self::ps) sc then(mSs 100 A ms ⟨tab,[],sc,aC sc,[]⟩ b).map fun g=>((self::ps).length - 1,xI A (aC sc).length g) else none)=some (n,M):=hd'
  by_cases hs:bS (aC sc) (self::ps) sc=true
  ·rw [if_pos hs] at hd2
   obtain⟨g,hg,e⟩:=zMd hd2
   cases e
   obtain⟨S,nm⟩:=cM hs
   refine aCf lk hcd S (fun vs H Q E hz_=> ?_) fun A' outer s H vs Q E hr hz_=> ?_
   ·obtain⟨G,p,r,dx,d,l1,l2,ds,ws,rfl,_,_,rq,hl,_⟩:=hz_
    have:=rq.length
    simp at hl ⊢
    omega
   obtain⟨G,p,r,dx,d,l1,l2,ds,ws,rfl,hG,hR,rq,hl,hq⟩:=hz_
   let C:SK.Ctx:=⟨tab,[],sc,aC sc,[]⟩
   have vis: ∀ x i,loc C x=some i->(aC sc)[i]? =some x/\Loc sc x/\x∈aC sc:=fun x i e=>by
    obtain⟨e1,e2⟩:=kZ e
    refine⟨eN e1, ?_,kY e1⟩
    rcases e2 with e2 | e2 | e2
    ·exact .inl e2
    ·exact .inr e2
    ·exact absurd rfl (S.nofree _ (eW e2))
   let X:=lX (CXe P w) P w K mg base (aC sc) qual sc f cdv A' outer s H E
   have O:StOk X ad C:=by
    refine⟨⟨rfl,S.nd,fun x i e=> ?_,fun x e=>e,fun x g e=> ?_,fun x i e=> ?_,rfl, ?_,hr.hd,B.exc,B.kin,B.kve,fun j m F' e=>by cases e⟩,fun _=>rfl,rfl,fun x i e=>(vis x i e).2.1,B.exm,B.exi⟩
    ·obtain⟨a,b,c⟩:=vis x i e
     exact⟨a,b.elim .inl fun z=> .inr (.inl z),(nm x c).1,(nm x c).2⟩
    ·obtain⟨a,b⟩:=TB x g e
     refine⟨a, ?_⟩
     cases g with
     | fn j m F'=>
      obtain⟨r',f',h1,h2,h3,h4,h5⟩:=b
      exact⟨r',f',⟨h2,h3,h4⟩,hr.mono h1,h5⟩
     | exc c=>exact b
     | verr=>exact b
     | val d=>exact b
     | py p=>exact b
     | cls A ms=>exact⟨b.1,b.2.1,fun m n M hm=>let ⟨no,f,r,fd,ps,h1,h2,h3,h4⟩:=b.2.2 m n M hm;⟨no,f,r,fd,ps,h2,h3,hr.mono h1,h4⟩⟩
    ·obtain⟨e1,e2⟩:=dU e
     rcases e2 with e2 | e2
     ·exact .inl e2
     ·exact absurd rfl (S.nofree _ (eW e2))
    ·exact Nat.lt_of_le_of_lt (Nat.add_le_add_left (by decide:62<=64) _) hr.units
   have T:DefX X E:=⟨rfl,rfl,rfl,fun e s' h=>h⟩
   have L:MeOk X ad A ms C (fun c H'=>E (.ref (ad.cls c)) none H') E:=⟨O,T,fun σ=>p8 T,fun c H h=>h,RC,fun m n M hm=>let ⟨no,f,r,fd,ps,h1,h2,h3,h4⟩:=MO m n M hm;⟨no,f,r,fd,ps,h2,h3,hr.mono h1,h4⟩⟩
   refine⟨_,(aBs L 100).2 b g hg, ?_⟩
   have S0:=iC (X:=X) (ad:=ad) (n:=(aC sc).length - (ds.length+1)) hG rq
   have hst:L2.start (aC sc) (V.ref p::ws)=some (V.ref p)::(ws.map some++ak ((aC sc).length - (ds.length+1)) none):=by
    unfold L2.start
    rw [bq,rq.length]
    rfl
   refine⟨G,p,dx,d,l1,l2,G, .rk A r::(ds.map Slot.sh++ak ((aC sc).length - (ds.length+1)) .no),false, ?_, ?_⟩
   ·rw [hst]
    refine⟨S0.sl.cons ⟨p,dx,d,l1,l2,rfl,hR⟩,hG,rfl,⟨r,l2,rfl,hR, .inl rfl⟩, ?_,fun c hc=>hc,fun j sl e=> ?_⟩
    ·unfold StB
     rw [if_neg bf]
     exact Step.refl hG
    ·have e':(ds.map Slot.sh++ak ((aC sc).length - (ds.length+1)) Slot.no)[j]? =some sl:=e
     have m:=List.mem_of_getElem? e'
     rcases List.mem_append.mp m with m | m
     ·obtain⟨d',_,rfl⟩:=aq.mp m;rfl
     ·rw [(List.mem_replicate.mp m).2];rfl
   ·have hq':RMK K ad A G H p dx d l1 l2 (aJx A (g (.rk A r::(ds.map Slot.sh++ak ((aC sc).length - (ds.length+1)) .no)) false)) Q (fun c H'=>E (.ref (ad.cls c)) none H'):=hq
    have fin: ∀ (ρ:Rho) (b:Bool) (y:D),RMK K ad A G H p dx d l1 l2 (if b then zX A ρ y else .pure (.ok y)) Q (fun c H'=>E (.ref (ad.cls c)) none H')-> ∀ σ G' H' v,SM X ad A G p dx d l1 l2 b G' H' ρ σ->Rep K ad G' y v->Q v H':=fun ρ b y hq σ G' H' v S' rv=>by
     cases b
     ·rw [if_neg bf] at hq
      have z:=S'.st
      unfold StB at z
      rw [if_neg bf] at z
      exact hq v G' H' z rv
     ·rw [if_pos rfl] at hq
      obtain⟨r1,l2',f1,f2,f3⟩:=S'.rk
      unfold zX at hq
      rw [f1] at hq
      have hq2:RMK K ad A G H p dx d l1 l2 (if A=A then .chg y r1 else .pure .bad) Q (fun c H'=>E (.ref (ad.cls c)) none H'):=hq
      rw [if_pos rfl] at hq2
      exact hq2 v G' H' l2' S'.toR f2 f3 rv
    cases e:g (.rk A r::(ds.map Slot.sh++ak ((aC sc).length - (ds.length+1)) .no)) false with
    | nx ρ b=>rw [e] at hq';exact fun σ G' H' S'=>fin ρ b .non hq' σ G' H' .non S' (by unfold Rep;rfl)
    | rt y ρ b=>
     rw [e] at hq'
     cases y with
     | ok y=>exact fun σ G' H' v S' rv=>fin ρ b y hq' σ G' H' v S' rv
     | ow xs=>
      cases b
      ·exact⟨rfl,hq'⟩
      ·exact hq'.elim
     | ex c=>exact hq'.elim
     | bad=>exact hq'.elim
    | ex c b=>
     rw [e] at hq'
     cases b
     ·exact⟨rfl,hq'⟩
     ·exact hq'.elim
    | bad=>rw [e] at hq';exact hq'.elim
  ·rw [if_neg hs] at hd2
   cases hd2
 | _=>cases hd
end
noncomputable def wK (ρ:Rho) (A i:Nat) (M:FM) (fs:List F) (k:D->Rho->Out):Out:=match(ρ[i]? :Option Slot) with
 | some (.rk C r)=>if C=A then(match args fs ρ with
  | .ok ds=>(match M r ds with
   | .pure x=>fQ ρ x fun d=>k d ρ
   | .chg x r'=>k x (ρ.set i (.rk A r')))
  | .ex c=> .ex c ρ
  | .bad=> .rt .bad) else .rt .bad
 | _=> .rt .bad
noncomputable def aF9 (A i:Nat) (M:FM) (fs:List F):FS:=fun ρ=>wK ρ A i M fs fun _ ρ'=> .nx ρ'
section
variable {X:Cx} {ad:Ad} {Z:(St->Nat->Hp->Prop)->Prop} {pins:List (Addr×Obj)} {s:Shared} {σ:St} {G₀ G H G1 H1:Hp} {ρ:Rho} {D':Ends} {E:St->Nat->Hp->Prop} {A i n:Nat} {M:FM} {fs:List F} {x m:Str} {es:List Expr} {pos p np ap cp:Pos} {r r':Rk} {p0 dx d l1 l2 l2':Addr}
theorem RackIn.stepR {K:Frag} {foot:List Addr} {C q:Addr} {r:Rk} {qx qd q1 q2:Addr} (h:RackIn K ad C G H q r qx qd q1 q2) (t:StepR foot G H G1 H1) (dis: ∀ a∈[q,qx,qd,q1,q2],a∉foot):RackIn K ad C G1 H1 q r qx qd q1 q2:=by
 obtain⟨kvs,a1,a2⟩:=h.held
 obtain⟨v1,b1,b2⟩:=h.done
 obtain⟨v2,c1,c2⟩:=h.undone
 have gn: ∀ {b:Addr} {o:HO},G b=none->H b=some o->G1 b=none:=fun {b o} g hb=>by
  cases z:G1 b with
  | none=>rfl
  | some u=>
   have:=t.nw b g (by rw [z];exact fun y=>nomatch y)
   rw [hb] at this
   cases this
 exact⟨t.sh _ _ (dis _ (by simp)) h.ins,t.sh _ _ (dis _ (by simp)) h.own,⟨kvs,t.sh _ _ (dis _ (by simp)) a1,a2.mono t.sg⟩,⟨v1,t.sh _ _ (dis _ (by simp)) b1,b2.mono t.sg⟩,⟨v2,t.sh _ _ (dis _ (by simp)) c1,c2.mono t.sg⟩,h.ne,
  gn h.gp h.ins,gn h.gx h.own,gn h.gd a1,gn h.g1 b1,gn h.g2 c1⟩
theorem SS.updR (S:SS X ad G₀ G H ρ σ) (e:ρ[i]? =some (.rk A r)) (h1:σ[i]? =some (some (.ref p0))) (hR:RackIn X.K ad A G H p0 r dx d l1 l2) (t:StepR [p0,dx,d,l1,l2] G H G1 H1) (hR':RackIn X.K ad A G1 H1 p0 r' dx d l1 l2') (h3:l2'=l2\/H l2'=none):
  SS X ad G₀ G1 H1 (ρ.set i (.rk A r')) σ:=by
 have hl:i<ρ.length:=(ax.mp e).1
 have ft:eV H ρ σ i [p0,dx,d,l1,l2]:=⟨A,r,p0,dx,d,l1,l2,e,h1,hR.ins,rfl⟩
 have f0:=S.rs.h0 i _ ft
 have fow:=S.rs.ow i _ ft
 have fat:=ft.at S.sl
 have none0: ∀ c,H c=none->X.H₀ c=none:=fun c hc=>S.st.sh.free hc
 have key: ∀ (j:Nat) (sl:Slot),(ρ.set i (.rk A r'))[j]? =some sl->(j=i/\sl= .rk A r')\/(j≠i/\ρ[j]? =some sl):=fun j sl e=>by
  by_cases z:j=i
  ·subst z
   rw [bj hl] at e
   cases e
   exact .inl ⟨rfl,rfl⟩
  ·rw [ba (Ne.symm z)] at e
   exact .inr ⟨z,e⟩
 have gn: ∀ {b:Addr} {o:HO},G b=none->H b=some o->G1 b=none:=fun {b o} g hb=>by
  cases z:G1 b with
  | none=>rfl
  | some u=>
   have:=t.nw b g (by rw [z];exact fun y=>nomatch y)
   rw [hb] at this
   cases this
 -- another rack's pieces are none of these
 have dis: ∀ {j:Nat} {as:List Addr},j≠i->eV H ρ σ j as-> ∀ a∈as,a∉[p0,dx,d,l1,l2]:=fun {j as} nj f a ha hm=>nj (S.rs.rr j i as _ a f ft ha hm)
 -- the pieces of a rack, as they were
 have bk: ∀ {j:Nat} {as:List Addr},j≠i->eV H1 (ρ.set i (.rk A r')) σ j as->eV H ρ σ j as:=fun {j as} nj f=>by
  obtain⟨C,r2,q,qx,qd,q1,q2,f1,f2,f3,f4⟩:=f
  rw [ba (Ne.symm nj)] at f1
  obtain⟨q',qx',qd',q1',q2',g1,g2⟩:=S.sl.rk f1
  rw [f2] at g1
  cases g1
  have fo:eV H ρ σ j [q,qx',qd',q1',q2']:=⟨C,r2,q,qx',qd',q1',q2',f1,f2,g2.ins,rfl⟩
  have:=t.sh _ _ (dis nj fo q (by simp)) g2.ins
  rw [f3] at this
  cases this
  exact⟨C,r2,q,qx,qd,q1,q2,f1,f2,g2.ins,f4⟩
 have bi: ∀ {as:List Addr},eV H1 (ρ.set i (.rk A r')) σ i as->as=[p0,dx,d,l1,l2']:=fun {as} f=>by
  obtain⟨C,r2,q,qx,qd,q1,q2,f1,f2,f3,f4⟩:=f
  rw [h1] at f2
  cases f2
  rw [bj hl] at f1
  cases f1
  rw [hR'.ins] at f3
  cases f3
  exact f4
 have newm: ∀ a∈[p0,dx,d,l1,l2'],a∈[p0,dx,d,l1,l2]\/H a=none:=fun a ha=>by
  simp only [au,List.not_mem_nil,or_false] at ha ⊢
  rcases ha with z | z | z | z | z
  ·exact .inl (.inl z)
  ·exact .inl (.inr (.inl z))
  ·exact .inl (.inr (.inr (.inl z)))
  ·exact .inl (.inr (.inr (.inr (.inl z))))
  ·rcases h3 with y | y
   ·exact .inl (.inr (.inr (.inr (.inr (z.trans y)))))
   ·exact .inr (by rw [z];exact y)
 refine⟨⟨S.st.sg.trans t.sg,t.gh,fun b o hb=>t.sh b o (fun m=>by rw [f0 b m] at hb;cases hb) (S.st.sh b o hb),fun b g1 g2=> ?_⟩,⟨by rw [List.length_set];exact S.sl.len,fun j sl ej=> ?_⟩,fun j sl a ej w hj=> ?_,fun j j' sl sl' a ej ej' w w' hj hj'=> ?_,⟨fun j as f a ha=> ?_,fun j as f a ha k sl ek w hk=> ?_,fun j j' as as' a f f' ha ha'=> ?_⟩⟩
 ·cases q:G b with
  | none=>exact none0 b (t.nw b q g2)
  | some o=>exact S.st.nw b g1 (by rw [q];exact fun y=>nomatch y)
 ·rcases key j sl ej with ⟨rfl,rfl⟩ | ⟨nj,ej⟩
  ·exact⟨_,h1,p0,dx,d,l1,l2',rfl,hR'⟩
  ·obtain⟨ov,k1,k2⟩:=S.sl.at_ j sl ej
   refine⟨ov,k1, ?_⟩
   cases sl with
   | no=>trivial
   | sh y=>
    obtain⟨v,q1,q2⟩:=k2
    exact⟨v,q1,q2.mono t.sg⟩
   | ow xs=>
    obtain⟨a,vs,q1,q2,q3,q4⟩:=k2
    subst q1
    exact⟨a,vs,rfl,gn q2 q3,t.sh _ _ (fun m=>fow a m j _ ej rfl k1) q3,q4.mono t.sg⟩
   | dc kvs=>
    obtain⟨a,vs,q1,q2,q3,q4,q5⟩:=k2
    subst q1
    exact⟨a,vs,rfl,gn q2 q3,t.sh _ _ (fun m=>fow a m j _ ej rfl k1) q3,q4.mono t.sg,q5⟩
   | sd kvs=>
    obtain⟨a,vs,q1,q2,q3,q4,q5⟩:=k2
    exact⟨a,vs,q1,t.sg _ _ q2,t.sh _ _ (fun m=>by rw [(fat a m).1] at q2;cases q2) q3,q4.mono t.sg,q5⟩
   | rk C r2=>
    obtain⟨q,qx,qd,q1,q2,g1,g2⟩:=k2
    subst g1
    exact⟨q,qx,qd,q1,q2,rfl,g2.stepR t (dis nj ⟨C,r2,q,qx,qd,q1,q2,ej,k1,g2.ins,rfl⟩)⟩
 ·rcases key j sl ej with ⟨rfl,rfl⟩ | ⟨nj,ej⟩
  ·cases w
  ·exact S.ow j sl a ej w hj
 ·rcases key j sl ej with ⟨rfl,rfl⟩ | ⟨nj,ej⟩
  ·cases w
  ·rcases key j' sl' ej' with ⟨rfl,rfl⟩ | ⟨nj',ej'⟩
   ·cases w'
   ·exact S.dj j j' sl sl' a ej ej' w w' hj hj'
 ·by_cases nj:j=i
  ·subst nj
   rw [bi f] at ha
   rcases newm a ha with z | z
   ·exact f0 a z
   ·exact none0 a z
  ·exact S.rs.h0 j as (bk nj f) a ha
 ·rcases key k sl ek with ⟨rfl,rfl⟩ | ⟨nk,ek2⟩
  ·cases w
  ·by_cases nj:j=i
   ·subst nj
    rw [bi f] at ha
    rcases newm a ha with z | z
    ·exact fow a z k sl ek2 w hk
    ·exact(S.sl.own_at ek2 w hk).2 z
   ·exact S.rs.ow j as (bk nj f) a ha k sl ek2 w hk
 ·by_cases nj:j=i
  ·by_cases nj':j'=i
   ·rw [nj,nj']
   ·subst nj
    rw [bi f] at ha
    have fb:=bk nj' f'
    rcases newm a ha with z | z
    ·exact S.rs.rr j j' _ as' a ft fb z ha'
    ·exact absurd z (fb.at S.sl a ha').2
  ·by_cases nj':j'=i
   ·subst nj'
    rw [bi f'] at ha'
    have fb:=bk nj f
    rcases newm a ha' with z | z
    ·exact S.rs.rr j j' as _ a fb ft ha z
    ·exact absurd z (fb.at S.sl a ha).2
   ·exact S.rs.rr j j' as as' a (bk nj f) (bk nj' f') ha ha'
end
noncomputable def zY (X:Cx) (ad:Ad) (A i:Nat) (M:FM) (fs:List F):TE:=fun σ H Q=> ∃ G ρ E r p0 dx d l1 l2,Same G H/\SL X.K ad G H ρ σ/\XP X ad σ E/\σ[i]? =some (some (V.ref p0))/\RackIn X.K ad A G H p0 r dx d l1 l2/\
 tA X ad fs σ H (fun vs H1=> ∃ ds G1,Step G H G1 H1/\aF X.K ad G1 ds vs/\ds.length=fs.length/\RMK X.K ad A G1 H1 p0 dx d l1 l2 (M r ds) Q E)
section
variable {X:Cx} {ad:Ad} {Z:(St->Nat->Hp->Prop)->Prop} {pins:List (Addr×Obj)} {s:Shared} {σ:St} {G₀ G H G1 H1:Hp} {ρ:Rho} {D':Ends} {E:St->Nat->Hp->Prop} {A i n:Nat} {M:FM} {f g:F} {fs:List F} {x m:Str} {e:Expr} {es:List Expr} {pos p np ap cp:Pos} {r r':Rk} {p0 dx d l1 l2 l2':Addr}
theorem aJ0 (RC:RkC X.K A) (M0:MetOk X ad A m n M) (hN:X.N[i]? =some x) (hv:Vis X.env.scope x) (hd:(x==("__debug__":Str))=false) (hcd:(x==("__classdict__":Str))=false) (ha:MA X ad es fs) (hn:fs.length=n)
  (hst: ∀ a r,es=a::r->starEach (a::r) X.env=(false,eval a X.env)::starEach r X.env/\(backTo cp (starEach r X.env)).any (·.1)=false) (hl:es.length=fs.length) (hfm:methodCallForm (es.length+([]:List Keyword).length) (backTo cp (starEach es X.env)) (backToKw cp (keywordEach [] X.env))=true) (hln:(ap.endLine==cp.line)=true):
  PE X (.Call (.Attribute (.Name x np) m ap) es [] cp) (zY X ad A i M fs):=by
 intro pins s σ H Q I ⟨G,ρ,E,r,p0,dx,d,l1,l2,hG,hS,hx,h1,hR,hA⟩
 obtain⟨fm,k,fd,ps,hm,_⟩:=M0.ok
 refine PySem.W.methodCall_KW (L2.thn (aZ hN hv hd hcd pins s σ H (fun v H1=>v= .ref p0/\H1=H) I ⟨.ref p0,h1,rfl,rfl⟩) fun u s1 hz_=> ?_) (fY rfl hfm hln)
 obtain⟨v,H1,I1,r1,e1,e2⟩:=hz_
 subst e1;subst e2
 cases (show u=Value.ref p0 from r1)
 refine eS I1 hR.ins RC.cl hm (qO M0.no) ?_
 cases es with
 | nil=>
  cases fs with
  | cons _ _=>cases hl
  | nil=>
   obtain⟨G2,ρ2,E2,hG2,_,_,hA⟩:=hA
   obtain⟨ds,G3,st,rq,hl2,k⟩:=(show AK X.K ad G2 H1 (.ok []) _ E2 from hA) [] G2 H1 (Step.refl hG2) aF.nil
   exact PySem.W.callWith_K0 (first:=[.ref p0]) I1.kIn hm.kp (i7 M0 I1 st.gh (hR.step st) .nil rq (hl2.trans hn) hx k hm)
 | cons a cI=>
  refine PySem.W.callWith_K (first:=[.ref p0]) (h₀:=X.base) I1.ok.mod.kin hm.kp (L2.thn (ha cp pins s1 σ H1 _ I1 hA) fun us s2 ⟨vs,H2,I2,r2,ds,G1,st,rq,hl,k⟩=>⟨I2.kIn, ?_⟩) (hst a cI rfl).1 (hst a cI rfl).2
  exact i7 M0 I2 st.gh (hR.step st) r2 rq (hl.trans hn) hx k hm
theorem aJ1 (S:SS X ad G₀ G H ρ σ) (hx:XA X ad Z E) {k:D->Rho->Out} {Q':VK} (hr:OKo X ad G₀ (wK ρ A i M fs k) D' E)
  (q: ∀ v y G1 H1 ρ1,SS X ad G₀ G1 H1 ρ1 σ->Rep X.K ad G1 y v->OKo X ad G₀ (k y ρ1) D' E->Q' v H1):zY X ad A i M fs σ H Q':=by
 unfold wK at hr
 cases e:(ρ[i]? :Option Slot) with
 | none=>rw [e] at hr;exact hr.elim
 | some sl=>
  rw [e] at hr
  cases sl with
  | rk C r=>
   have hr':OKo X ad G₀ (if C=A then(match args fs ρ with
    | .ok ds=>(match M r ds with
     | .pure x=>fQ ρ x fun d=>k d ρ
     | .chg x r'=>k x (ρ.set i (.rk A r')))
    | .ex c=> .ex c ρ
    | .bad=> .rt .bad) else .rt .bad) D' E:=hr
   by_cases hc:C=A
   ·rw [if_pos hc] at hr'
    subst hc
    obtain⟨p0,dx,d,l1,l2,h1,hR⟩:=S.sl.rk e
    refine⟨G,ρ,E σ,r,p0,dx,d,l1,l2,S.st.gh,S.sl,hx.1 σ,h1,hR,G,ρ,E σ,S.st.gh,S.sl,hx.1 σ, ?_⟩
    cases ea:args fs ρ with
    | ok ds=>
     rw [ea] at hr'
     intro vs G1 H1 st rq
     refine⟨ds,G1,st,rq,fV ea, ?_⟩
     have S1:=S.step st
     have hR1:=hR.step st
     have hr2:OKo X ad G₀ (match M r ds with
      | .pure x=>fQ ρ x fun d=>k d ρ
      | .chg x r'=>k x (ρ.set i (.rk C r'))) D' E:=hr'
     cases em:M r ds with
     | pure y=>
      rw [em] at hr2
      cases y with
      | ok y=>exact fun v G2 H2 st2 rv=>q v y G2 H2 ρ (S1.step st2) rv hr2
      | ow xs=>
       intro a ws G2 H2 st2 n2 m2 e2 rw2
       obtain⟨G3,st3,r3⟩:=bF (X:=X) (ad:=ad) st2 n2 m2 e2 rw2
       exact q _ _ G3 H2 ρ (S1.step st3) r3 hr2
      | ex c=>exact fun G2 H2 st2=>hr2 σ G2 H2 (S1.step st2)
      | bad=>exact hr2.elim
     | chg y r'=>
      rw [em] at hr2
      exact fun v G2 H2 l2' t hR2 h3 rv=>q v y G2 H2 _ (S1.updR e h1 hR1 t hR2 h3) rv hr2
    | ex c=>
     rw [ea] at hr'
     exact fun G1 H1 st=>hr' σ G1 H1 (S.step st)
    | bad=>
     rw [ea] at hr'
     exact hr'.elim
   ·rw [if_neg hc] at hr'
    exact hr'.elim
  | no=>exact hr.elim
  | sh _=>exact hr.elim
  | ow _=>exact hr.elim
  | dc _=>exact hr.elim
  | sd _=>exact hr.elim
theorem aJ2 (he:PE X e (zY X ad A i M fs)) (hs:swapsWith e none pos.line X.env=pure false):MS X ad Z (.Expr e pos) (aF9 A i M fs):=by
 refine PS.imp (fH he hs) ?_
 rintro D' σ H ⟨G₀,G,ρ,E,S,hx,hr⟩
 exact aJ1 S hx hr fun v y G1 H1 ρ1 S1 rv k=>k σ G1 H1 S1
end
noncomputable def rk0:Rk:=⟨[],[],[]⟩
noncomputable def spI (K:Frag) (ad:Ad) (A:Nat):Sp:=fun vs H Q _=> ∃ p dx G,vs=[V.ref p]/\Same G H/\G p=none/\G dx=none/\dx≠p/\H p=some (.ins A dx [])/\H dx=some (.own p)/\
 ∀ d l1 l2 H',H d=none->H l1=none->H l2=none->RackIn K ad A G H' p rk0 dx d l1 l2->(∀ b o,b≠p->H b=some o->H' b=some o)->Q .non H'
structure Ini (X:Cx) (A:Nat) (x:Str):Prop where
 RC:RkC X.K A
 hN:X.N[0]? =some x
 hv:Vis X.env.scope x
 hd:(x==("__debug__":Str))=false
 hcd:(x==("__classdict__":Str))=false
noncomputable def aN3 (x:Str) (n1 q1 a1 n2 q2 a2 n3 q3 a3 e1 e2 e3:Pos):List Stmt:=
 [.Assign [.Attribute (.Name x n1) "held" q1] (.Dict [] [] e1) a1, .Assign [.Attribute (.Name x n2) "done" q2] (.List [] e2) a2, .Assign [.Attribute (.Name x n3) "undone" q3] (.List [] e3) a3]
section
variable {X:Cx} {ad:Ad} {A:Nat} {x:Str} {n1 q1 a1 n2 q2 a2 n3 q3 a3 e1 e2 e3:Pos}
theorem wL (L:Ini X A x) {p dx:Addr} {G H:Hp} {σ:St} {Q:VK} (me:σ[0]? =some (some (.ref p))) (hG:Same G H) (gp:G p=none) (gx:G dx=none) (ne:dx≠p) (hp:H p=some (.ins A dx [])) (hx:H dx=some (.own p))
  (q: ∀ d l1 l2 H',H d=none->H l1=none->H l2=none->RackIn X.K ad A G H' p rk0 dx d l1 l2->(∀ b o,b≠p->H b=some o->H' b=some o)->Q .non H'):
  ∃ t,PSs X (aN3 x n1 q1 a1 n2 q2 a2 n3 q3 a3 e1 e2 e3) t/\t { nx:=fun _ H'=>Q .non H',rt:=Q } σ H:=by
 have nm: ∀ p':Pos,PE X (.Name x p') (aGh 0):=fun p'=>aZ L.hN L.hv L.hd L.hcd
 refine⟨_,dN (pD (nm n1) zE rfl) (dN (pD (nm n2) (pE cL) rfl) (nO (pD (nm n3) (pE cL) rfl))), ?_⟩
 intro d nd
 have dp:d≠p:=fun z=>by rw [z,hp] at nd;cases nd
 have dd:dx≠d:=fun z=>by rw [<-z,hx] at nd;cases nd
 have h1p:upd H d (.dK []) p=some (.ins A dx []):=by rw [aA (Ne.symm dp)];exact hp
 refine⟨.ref p,me,p,A,dx,_,rfl,h1p,L.RC.cl,L.RC.n1,by show 0<1000;decide, ?_⟩
 refine⟨bu _,fun l1 n1=> ?_⟩
 have lp:l1≠p:=fun z=>by rw [z,aE] at n1;cases n1
 have ld:l1≠d:=fun z=>by rw [aA lp,z,aE] at n1;cases n1
 have n1':H l1=none:=by rw [aA lp,aA ld] at n1;exact n1
 have xl:dx≠l1:=fun z=>by rw [<-z,hx] at n1';cases n1'
 refine⟨.ref p,me,p,A,dx,[(("held":Str),V.ref d)],rfl,by rw [aA (Ne.symm lp),aE];rfl,L.RC.cl,L.RC.n2,by show 1<1000;decide, ?_⟩
 refine⟨bu _,fun l2 n2=> ?_⟩
 have mp:l2≠p:=fun z=>by rw [z,aE] at n2;cases n2
 have ml:l2≠l1:=fun z=>by rw [aA mp,z,aE] at n2;cases n2
 have md:l2≠d:=fun z=>by rw [aA mp,aA ml,aA mp,z,aE] at n2;cases n2
 have n2':H l2=none:=by rw [aA mp,aA ml,aA mp,aA md] at n2;exact n2
 have xm:dx≠l2:=fun z=>by rw [<-z,hx] at n2';cases n2'
 refine⟨.ref p,me,p,A,dx,[(("held":Str),V.ref d),("done",V.ref l1)],rfl,by rw [aA (Ne.symm mp),aE];rfl,L.RC.cl,L.RC.n3,by show 2<1000;decide, ?_⟩
 refine q d l1 l2 _ nd n1' n2' ⟨by rw [aE];rfl, ?_,⟨[], ?_, .nil⟩,⟨[], ?_,aF.nil⟩,⟨[], ?_,aF.nil⟩,Ne.symm ml,gp,gx,hG.free nd,hG.free n1',hG.free n2'⟩ fun b o hb e=> ?_
 ·rw [aA ne,aA xm,aA ne,aA xl,aA ne,aA dd];exact hx
 ·rw [aA dp,aA (Ne.symm md),aA dp,aA (Ne.symm ld),aA dp,aE]
 ·rw [aA lp,aA (Ne.symm ml),aA lp,aE]
 ·rw [aA mp,aE]
 ·rw [aA hb,aA (aN e n2'),aA hb,aA (aN e n1'),aA hb,aA (aN e nd)];exact e
end
noncomputable def aJ3 (i A:Nat):FS:=fun ρ=> .nx (ρ.set i (.rk A rk0))
section
variable {X:Cx} {ad:Ad} {Z:(St->Nat->Hp->Prop)->Prop} {σ:St} {G₀ G H H1:Hp} {ρ:Rho} {A i:Nat} {r:Rk} {p dx d l1 l2:Addr} {y x:Str} {pos yp np cp:Pos}
theorem SS.setR (S:SS X ad G₀ G H ρ σ) (s1:Same H H1) (hR:RackIn X.K ad A G H1 p r dx d l1 l2) (nw: ∀ a∈[p,dx,d,l1,l2],H a=none) (gh:Same G H1):SS X ad G₀ G H1 (ρ.set i (.rk A r)) (σ.set i (some (.ref p))):=by
 have st:Step G H G H1:=⟨Same.refl _,gh,s1,fun b h1 h2=>absurd h1 h2⟩
 have S1:=S.step st
 have key: ∀ (j:Nat) (sl:Slot),(ρ.set i (.rk A r))[j]? =some sl->(j=i/\sl= .rk A r/\i<ρ.length)\/(j≠i/\ρ[j]? =some sl):=fun j sl e=>by
  by_cases z:j=i
  ·subst z
   have hl:j<ρ.length:=by have:=(ax.mp e).1;rwa [List.length_set] at this
   rw [bj hl] at e
   cases e
   exact .inl ⟨rfl,rfl,hl⟩
  ·rw [ba (Ne.symm z)] at e
   exact .inr ⟨z,e⟩
 have sne: ∀ {j:Nat},j≠i->(σ.set i (some (V.ref p)))[j]? =σ[j]? :=fun {j} z=>ba (Ne.symm z)
 have bk: ∀ {j:Nat} {as:List Addr},j≠i->eV H1 (ρ.set i (.rk A r)) (σ.set i (some (.ref p))) j as->eV H ρ σ j as:=fun {j as} nj f=>by
  obtain⟨C,r2,q,qx,qd,q1,q2,f1,f2,f3,f4⟩:=f
  rw [ba (Ne.symm nj)] at f1 f2
  exact eV.back S.sl s1 ⟨C,r2,q,qx,qd,q1,q2,f1,f2,f3,f4⟩
 have bi: ∀ {as:List Addr},eV H1 (ρ.set i (.rk A r)) (σ.set i (some (.ref p))) i as->as=[p,dx,d,l1,l2]:=fun {as} f=>by
  obtain⟨C,r2,q,qx,qd,q1,q2,f1,f2,f3,f4⟩:=f
  rcases key i _ f1 with ⟨_,z,hl⟩ | ⟨z,_⟩
  ·cases z
   rw [bj (by rw [<-S.sl.len];exact hl)] at f2
   cases f2
   rw [hR.ins] at f3
   cases f3
   exact f4
  ·exact absurd rfl z
 have none0: ∀ c,H c=none->X.H₀ c=none:=fun c hc=>S.st.sh.free hc
 refine⟨S1.st,⟨by rw [List.length_set,List.length_set];exact S.sl.len,fun j sl e=> ?_⟩,fun j sl a e w h=> ?_,fun j j' sl sl' a e e' w w' h h'=> ?_,⟨fun j as f a ha=> ?_,fun j as f a ha k sl ek w hk=> ?_,fun j j' as as' a f f' ha ha'=> ?_⟩⟩
 ·rcases key j sl e with ⟨rfl,rfl,hl⟩ | ⟨z,e⟩
  ·exact⟨some (.ref p),bj (by rw [<-S.sl.len];exact hl),p,dx,d,l1,l2,rfl,hR⟩
  ·obtain⟨ov,h1,h2⟩:=S1.sl.at_ j sl e
   exact⟨ov,by rw [sne z];exact h1,h2⟩
 ·rcases key j sl e with ⟨_,rfl,_⟩ | ⟨z,e⟩
  ·cases w
  ·rw [sne z] at h;exact S.ow j sl a e w h
 ·rcases key j sl e with ⟨_,rfl,_⟩ | ⟨z,e⟩
  ·cases w
  ·rcases key j' sl' e' with ⟨_,rfl,_⟩ | ⟨z',e'⟩
   ·cases w'
   ·rw [sne z] at h
    rw [sne z'] at h'
    exact S.dj j j' sl sl' a e e' w w' h h'
 ·by_cases nj:j=i
  ·subst nj
   rw [bi f] at ha
   exact none0 a (nw a ha)
  ·exact S.rs.h0 j as (bk nj f) a ha
 ·rcases key k sl ek with ⟨_,rfl,_⟩ | ⟨z,ek2⟩
  ·cases w
  ·rw [sne z] at hk
   by_cases nj:j=i
   ·rw [nj] at f
    rw [bi f] at ha
    exact(S.sl.own_at ek2 w hk).2 (nw a ha)
   ·exact S.rs.ow j as (bk nj f) a ha k sl ek2 w hk
 ·by_cases nj:j=i
  ·by_cases nj':j'=i
   ·rw [nj,nj']
   ·rw [nj] at f
    rw [bi f] at ha
    exact absurd (nw a ha) ((bk nj' f').at S.sl a ha').2
  ·by_cases nj':j'=i
   ·rw [nj'] at f'
    rw [bi f'] at ha'
    exact absurd (nw a ha') ((bk nj f).at S.sl a ha).2
   ·exact S.rs.rr j j' as as' a (bk nj f) (bk nj' f') ha ha'
structure MkOk (X:Cx) (ad:Ad) (A:Addr):Prop where
 ok: ∃ f k fd ps,Mk X.K A f/\FnOk X.prog X.w X.K X.mg X.base (CXe X.prog X.w) k f fd ps (spI X.K ad A)/\Room (k+1) X.A/\eK X.K fd ps []
theorem aE9 (MK:MkOk X ad A) (hg:L2.Gl X x) (hm:X.mg x=some (.ref A)) (hdb:(x==("__debug__":Str))=false) (hN:X.N.Nodup) (hi:X.N[i]? =some y) (hl:Loc X.env.scope y) (hf:X.fn y=true\/X.env.scope.names.lookup y=some .local):
  MS X ad Z (.Assign [.Name y yp] (.Call (.Name x np) [] [] cp) pos) (aJ3 i A):=by
 obtain⟨f,k,fd,ps,M,F,hr,hb⟩:=MK.ok
 refine PS.imp (jN hN hi hl (fun pins s σ H Q I hq=>pF (E:=fun _ _ _=>False) M F hr hg hm hb .nil (fun pins σ H s e s' I hc=>by obtain⟨_,_,_,_,_,_,_,_,_,_,_,_,_,_,z⟩:=hc;exact z.elim) hdb pins s σ H Q I hq) rfl hf) ?_
 rintro D' σ H ⟨G₀,G,ρ,E,S,hx,hr⟩
 intro p dx np ndx ne
 refine⟨p,dx,G,rfl, ?_,S.st.gh.free np,S.st.gh.free ndx,ne,aE,by rw [aA ne,aE],fun d l1 l2 H' nd n1 n2 hR hk=>⟨rfl, ?_⟩⟩
 ·exact S.st.gh.trans ((Same.upd_new ndx).trans (Same.upd_new (by rw [aA (Ne.symm ne)];exact np)))
 ·have back: ∀ {c:Addr},upd (upd H dx (.own p)) p (.ins A dx []) c=none->H c=none:=fun {c} hc=>by
   by_cases z:c=p
   ·rw [z];exact np
   ·by_cases z2:c=dx
    ·rw [z2];exact ndx
    ·rw [aA z,aA z2] at hc;exact hc
  have s1:Same H H':=fun b o e=>hk b o (aN e np) (by rw [aA (aN e np),aA (aN e ndx)];exact e)
  refine hr _ G H' (S.setR s1 hR (fun a ha=> ?_) (S.st.gh.trans s1))
  simp only [au,List.not_mem_nil,or_false] at ha
  rcases ha with z | z | z | z | z
  ·rw [z];exact np
  ·rw [z];exact ndx
  ·rw [z];exact back nd
  ·rw [z];exact back n1
  ·rw [z];exact back n2
end
abbrev FC:=Rho->(Bool->Rho->Out)->Out
section
variable {X:Cx} {ad:Ad} {Z:(St->Nat->Hp->Prop)->Prop} {A i:Nat} {M:FM} {f g:F} {fs:List F} {gs hs:FS} {a b e:Expr} {cI sa sb:List Stmt} {es:List Expr} {pos bp:Pos} {c c1 c2:FC} {op:CmpOp}
end
noncomputable def aMp (f:Str):Stmt->Option Str
 | .Assign [.Attribute (.Name x _) g _] (.Dict [] [] _) _=>if g=f then some x else none
 | _=>none
noncomputable def aKx (f:Str):Stmt->Option Str
 | .Assign [.Attribute (.Name x _) g _] (.List [] _) _=>if g=f then some x else none
 | _=>none
noncomputable def aFa (x:Str):List Stmt->Bool
 | [a,b,c]=>aMp "held" a==some x&&aKx "done" b==some x&&aKx "undone" c==some x
 | _=>false
theorem aFb {f x:Str} {st:Stmt} (h:aMp f st=some x): ∃ n q e a,st= .Assign [.Attribute (.Name x n) f q] (.Dict [] [] e) a:=by
 unfold aMp at h
 split at h
 ·split at h
  ·rename_i hg
   subst hg
   cases h
   exact⟨_,_,_,_,rfl⟩
  ·cases h
 ·cases h
theorem wM {f x:Str} {st:Stmt} (h:aKx f st=some x): ∃ n q e a,st= .Assign [.Attribute (.Name x n) f q] (.List [] e) a:=by
 unfold aKx at h
 split at h
 ·split at h
  ·rename_i hg
   subst hg
   cases h
   exact⟨_,_,_,_,rfl⟩
  ·cases h
 ·cases h
theorem zZ {x:Str} {b:List Stmt} (h:aFa x b=true): ∃ n1 q1 a1 n2 q2 a2 n3 q3 a3 e1 e2 e3,b=aN3 x n1 q1 a1 n2 q2 a2 n3 q3 a3 e1 e2 e3:=by
 unfold aFa at h
 split at h
 ·simp only [av,beq_iff_eq] at h
  obtain⟨⟨h1,h2⟩,h3⟩:=h
  obtain⟨n1,q1,e1,a1,rfl⟩:=aFb h1
  obtain⟨n2,q2,e2,a2,rfl⟩:=wM h2
  obtain⟨n3,q3,e3,a3,rfl⟩:=wM h3
  exact⟨n1,q1,a1,n2,q2,a2,n3,q3,a3,e1,e2,e3,rfl⟩
 ·cases h
section
variable {P:Program} {w:World} {K:Frag} {mg:Str->Option Value} {base h:Heap} {ad:Ad} {k:Nat} {tab:List (Str×SK.Gl)} {fns:List (Nat×Fn)}
theorem aJ4 {x qual self:Str} {st:Stmt} {f:Addr} {fd:FuncData} {A:Nat} (RC:RkC K A) (Fu:Fun K x qual st f fd) (hs:bS (aC (defScope st)) [self] (defScope st)=true) (hb:aFa self (defBody st)=true):FnOk P w K mg base (CXe P w) (k+1) f fd [self] (spI K ad A):=by
 obtain⟨oc,od,kV,doc,pm,an,cdv,ct,osl,rfl,lk,hcd⟩:=Fu.ex
 obtain⟨S,nm⟩:=cM hs
 obtain⟨n1,q1,a1,n2,q2,a2,n3,q3,a3,e1,e2,e3,hbd⟩:=zZ hb
 have h0:(aC (defScope st))[0]? =some self:=by
  have:=S.pre
  cases e:aC (defScope st) with
  | nil=>rw [e] at this;cases this
  | cons y ys=>rw [e] at this;cases this;rfl
 have hm:self∈aC (defScope st):=List.mem_of_getElem? h0
 refine aCf lk hcd S (fun vs H Q E hz_=> ?_) fun A' outer s H vs Q E hr hz_=> ?_
 ·obtain⟨p,dx,G,rfl,_⟩:=hz_
  rfl
 ·obtain⟨p,dx,G,rfl,hG,gp,gx,ne,hp,hx,hq⟩:=hz_
  rw [hbd]
  refine wL ⟨RC,h0,(S.par self (.head _)).elim .inl fun z=> .inr (.inl z),(nm _ hm).1,(nm _ hm).2⟩ (p:=p) (dx:=dx) (G:=G) ?_ hG gp gx ne hp hx hq
  unfold L2.start
  rfl
theorem eA.mono {k':Nat} (h:eA P w K mg base ad k fns) (hk:k<=k'):eA P w K mg base ad k' fns:=fun j n F e=>let ⟨r,h1,h2⟩:=h j n F e;⟨r,Nat.le_trans h1 hk,h2⟩
theorem aBt {A:Addr} (h1:PySem.W.plainGet K A Str.empty=true) (h2:PySem.W.hasDictIn K A=true) (h3:PySem.W.plainOver K A=true) (h4:PySem.W.findIn K (.ref A) "__setattr__"=some (some (.builtin "object.__setattr__")))
  (h5:PySem.W.findIn K (.ref A) "held"=some none) (h6:PySem.W.findIn K (.ref A) "done"=some none) (h7:PySem.W.findIn K (.ref A) "undone"=some none):RkC K A:=⟨⟨h1,h2,h3,h4⟩,h5,h6,h7⟩
theorem PQ.rack (T:PQ P w K mg base h ad k tab fns) (A:Addr) (c:RkC K A) (hm:nsIn K mainGlobals "Rack"=some (some (.ref A)):=by kernel_rfl):PQ P w K mg base h ad k (("Rack", .cls A [])::tab) fns:=
 ⟨cU.cons T.t (by decide) ⟨PySem.W.mg_of T.X T.G hm,c,fun _ _ _ e=>by cases e⟩,T.u,T.X,T.G,T.B⟩
def aO8 (x qual:Str) (st:Stmt) (ps:List Str):Prop:= ∀ (kV doc pm:Value) (an:Option Addr) (cdv ct:Value) (us:List Value),us.length=ps.length->bindArgs (PySem.W.fnOf x qual (defArgs st) (defBody st) (defScope st) .none kV doc pm an cdv ct) ⟨us,[]⟩=pure (ps.zip us)
theorem PQ.met (T:PQ P w K mg base h ad k tab fns) (m qual:Str) (st:Stmt) (f:Addr) (self:Str) (ps:List Str) (n:Nat) (M:FM) {A:Addr} {ms:List (Str×Nat×FM)} {oc:Value} {od an:Option Addr} {osl:Array (Option Value)} {kV doc pm cdv ct:Value} (l:K.lookup f=some ⟨oc,od, .func (PySem.W.fnOf m qual (defArgs st) (defBody st) (defScope st) .none kV doc pm an cdv ct),osl⟩)
  (hl:tab.lookup ("Rack":Str)=some (SK.Gl.cls A ms)) (d:aJy tab A ms st=some (n,M):=by kernel_rfl) (c:codeIn K cdv qual=true:=by kernel_rfl) (kp:keepIn K (.ref f)=true:=by kernel_rfl) (m1:PySem.W.findIn K (.ref A) m=some (some (.ref f)):=by kernel_rfl) (m2:PySem.W.isFn K (.ref f)=true:=by kernel_rfl)
  (no:m≠"held"/\m≠"done"/\m≠"undone":=by decide) (hps:eM (defArgs st)=some (self::ps):=by rfl) (hb:aO8 m qual st (self::ps):=by intro _ _ _ _ _ _ us hl;rcases us with _ | ⟨u0,_ | ⟨u1,_ | ⟨u2,_ | ⟨u3,_ | ⟨u4,_ | ⟨u5,us⟩⟩⟩⟩⟩⟩<;>first | rfl | (simp at hl)):
  PQ P w K mg base h ad (k+1) (("Rack", .cls A ((m,n,M)::ms))::tab) fns:=by
 have F:=pL (x:=m) (qual:=qual) (st:=st) l c kp
 obtain⟨c1,c2,c3⟩:=(T.t "Rack" _ hl).2
 have ok:=aJz (k:=k) T.B T.t c2 c3 F hps d
 refine⟨cU.cons (T.t.mono (Nat.le_succ k)) (by decide) ⟨c1,c2,fun m' n' M' e=> ?_⟩,T.u.mono (Nat.le_succ k),T.X,T.G,T.B⟩
 rw [List.lookup_cons] at e
 cases q:m'==m with
 | true=>
  rw [q] at e
  cases e
  cases eq_of_beq q
  exact⟨no,f,k+1,_,_,aj _,⟨m1,m2,kp⟩,ok,F.binds hb⟩
 | false=>
  rw [q] at e
  obtain⟨no',f',r,fd,ps',h1,h2⟩:=c3 m' n' M' e
  exact⟨no',f',r,fd,ps',Nat.le_trans h1 (Nat.le_succ k),h2⟩
end
def aMq (o:Obj) (q:Str):Prop:= ∃ vs t,o.data= .fields vs/\vs[1]? =some (.str q t)
structure Tb (P:Addr) (q:Str) (ps:Array Value) (cs:List (Addr×Obj)):Prop where
 ok:TriplesOk ps.toList
 cod: ∀ pos cv,codeAmong pos ps.toList=some cv-> ∃ c o,cv= .ref c/\(c,o)∈cs/\aMq o q
 ne: ∀ p∈cs,p.1≠P
theorem gY: ∀ {l:List Value} {i j:Int} {a b:Nat} {c:Value},TriplesOk l->TriplesOk (l++[.int i a, .int j b,c])
 | [],_,_,_,_,_,_=>trivial
 | .int _ _:: .int _ _::_::r,_,_,_,_,_,h=>gY (l:=r) h
theorem kA {pos pos':Pos} {c cv:Value}: ∀ {l:List Value},TriplesOk l->codeAmong pos' (l++[rawInt pos.line,rawInt pos.col,c])=some cv->codeAmong pos' l=some cv\/cv=c
 | [],_,h=>by
  simp only [List.nil_append,codeAmong,rawInt] at h
  split at h
  ·exact .inr (Option.some.inj h).symm
  ·cases h
 | .int i a:: .int j b::d::r,ht,h=>by
  simp only [List.cons_append,codeAmong] at h ⊢
  split at h
  ·rename_i hc
   rw [if_pos hc]
   exact .inl h
  ·rename_i hc
   rw [if_neg hc]
   exact kA (l:=r) ht h
section
variable {X:Cx} {P c:Addr} {q:Str} {ps:Array Value} {cs pins:List (Addr×Obj)} {σ:St} {H:Hp} {s:Shared} {params:Arguments} {body:Expr} {sc:Scope} {pos:Pos} {R':Value->Shared->Prop}
theorem wN (I:Inv X ((P,PySem.W.tabObj ps)::(cs++pins)) σ H s) (T:Tb P q ps cs) (hx:P∈X.ex) (hpn: ∀ p∈X.pn++pins,p.1≠P) (hpar:defaultsOf params X.env=([],[])) (hq:X.env.qual++"<lambda>"=q)
  (hfree: ∀ x,(x,NameKind.free)∈sc.names->X.env.kindOf x=some .cell\/X.env.kindOf x=some .free) (hcode:X.env.code= .ref c) (hC:PySem.W.CodeHd s.heap c P) (hB:s.heap.BuiltinsAt X.mg P)
  (k: ∀ (a:Addr) (ps':Array Value) (cs':List (Addr×Obj)) (cv ctv:Value) (s':Shared),Inv X ((P,PySem.W.tabObj ps')::(cs'++pins)) σ H s'->Tb P q ps' cs'->(∃ more,ps'=ps++more)->(∀ p∈cs',p∈cs\/s.heap.objs.size<=p.1)->s.heap.objs.size<=a->
   s'.heap.get? a=some { cls:= .type "function",data:= .func (PySem.W.kla_fn "<lambda>" q params body sc (iT X.env.cells sc.names []) ((X.mg "__name__").getD .none) cv ctv) }->s'.heap.CodeRec cv q->(∃ c',cv= .ref c'/\H c'=none/\c'≠X.env.locals/\c'∉X.fs)->
   (∀ b o,b≠P->s.heap.get? b=some o->s'.heap.get? b=some o)->R' (.ref a) s'):
  wpAny (model X.prog X.w) X.A (eval (.Lambda params body sc pos) X.env) R' X.xe s:=by
 have hcl:closureFor sc X.env=pure (iT X.env.cells sc.names []):=gM fun x hx=>by
  obtain⟨c,h⟩:=I.ok.has x (hfree x hx)
  rw [h];rfl
 have pP:=I.pin (P,PySem.W.tabObj ps) (bt _ (.head _))
 have hg:s.heap.Ns mainGlobals X.mg:=I.mod.glob.keeps I.bk
 have hgP:mainGlobals≠P:=fun z=>by
  obtain⟨o,es,ep,e,hd,_⟩:=hg
  have e2:=pP.1
  rw [z] at e
  rw [e] at e2
  cases e2
  cases hd
 -- without the table's pin
 have I0:Inv X (cs++pins) σ H s:=I.pins_of fun p hp=>I.pin p (bt _ (.tail _ hp))
 have inP: ∀ p∈X.pn++(cs++pins),p.1≠P:=fun p hp=>by
  rcases List.mem_append.mp hp with h | h
  ·exact hpn p (List.mem_append_left _ h)
  ·rcases List.mem_append.mp h with h | h
   ·exact T.ne p h
   ·exact hpn p (bt _ h)
 have hch: ∀ b∈[P],(b∈X.ex\/X.s₀.heap.objs.size<=b)/\b≠X.env.locals/\(∀ x c,X.env.cells.lookup x=some c->c≠b)/\ ∀ p∈X.pn++(cs++pins),p.1≠b:=fun b hb=>by
  rw [List.mem_singleton.mp hb]
  exact⟨.inl hx,(I.ok.exf P hx).1,(I.ok.exf P hx).2,inP⟩
 -- the state behind
 have after: ∀ (h':Heap) (tk:Nat),(∀ b o,b≠P->s.heap.get? b=some o->h'.get? b=some o)->Inv X (cs++pins) σ H { s with heap:=h',toks:=tk }:=fun h' tk ext=>by
  have neP: ∀ b,b∉[P]->b≠P:=fun b hb z=>hb (by rw [z];exact .head _)
  refine I0.step (ch:=[P]) (g':=s.gens) (d':=s.drawn) hch (fun b o _ _ hb e _=>ext b o (neP b hb) e) (fun b o _ _ hb e _=>⟨o.slots,ext b o (neP b hb) e⟩) (fun b o _ _ n=>n) (fun b o hb e=>⟨o,ext b o (neP b hb) e⟩) (fun _ _ e=>e) (fun _ _ _ e=>e) (fun b ps e=>⟨#[],by rw [e];simp⟩) (fun m hn=> ?_) (fun a o e=> ?_) I.bare
  ·obtain⟨o,es,ep,e,r⟩:=hn
   exact⟨o,es,ep,ext _ o (I.ok.exf P hx).1.symm e,r⟩
  ·have nP: ∀ b,H b≠none->b≠P:=fun b hb z=>hb (by rw [z];exact pP.2.1)
   refine(I.hok a o e).stay (fun b u hb q=>ext b u ?_ q) (fun _ q=>q) fun _ _ q=>q
   rcases hb with rfl | hb
   ·exact nP _ (by rw [e];exact fun z=>nomatch z)
   ·exact nP _ (by rw [hb];exact fun z=>nomatch z)
 refine PySem.W.kla_eval hpar ?_
 rw [hq]
 cases hf:codeAmong pos ps.toList with
 | some cv=>
  refine PySem.W.kla_makeFunctionHit (mg:=X.mg) hcl I.ok.glob hg hcode hC pP.1 T.ok hf hB fun ctv h' tk hk hsz=> ?_
  obtain⟨c1,o1,e1,m1,r1⟩:=T.cod pos cv hf
  have p1:=I.pin (c1,o1) (bt _ (.tail _ (List.mem_append_left _ m1)))
  have ext: ∀ b o,s.heap.get? b=some o->(h'.push { cls:= .type "function",data:= .func (PySem.W.kla_fn "<lambda>" q params body sc (iT X.env.cells sc.names []) ((X.mg "__name__").getD .none) cv ctv) }).get? b=some o:=fun b o e=>af _ (hk b o e)
  refine k _ ps cs cv ctv _ ((after _ tk fun b o _ e=>ext b o e).pins_of fun p hp=> ?_) T ⟨#[],by simp⟩ (fun p hp=> .inl hp) hsz (ag _ rfl) ?_ ⟨c1,e1,p1.2.1,p1.2.2.1,p1.2.2.2.1⟩ fun b o _ e=>ext b o e
  ·have:=I.pin p (bt _ hp)
   exact⟨ext _ _ this.1,this.2⟩
  ·obtain⟨vs,t,d,v⟩:=r1
   exact⟨c1,o1,vs,t,e1,ext _ _ p1.1,d,v⟩
 | none=>
  refine PySem.W.kla_makeFunction (mg:=X.mg) hcl I.ok.glob hg hcode hC pP.1 T.ok hf hgP hB fun c' ctv h' tk hx' hge hlt hrec htb=> ?_
  obtain⟨c2,oc,vs,t,e2,hoc,hd,hv⟩:=hrec
  cases e2
  have ext: ∀ b o,b≠P->s.heap.get? b=some o->(h'.push (PySem.W.kla_obj "<lambda>" q params body sc (iT X.env.cells sc.names []) ((X.mg "__name__").getD .none) c' ctv)).get? b=some o:=fun b o ne e=>af _ (hx' b o ne e)
  have hPlt:P<s.heap.objs.size:=ah pP.1
  have ncell: ∀ v,oc.data≠ .cell v:=fun v z=>by rw [hd] at z;cases z
  have hcn:H c'=none:=I.hok.fresh hge
  refine k _ (ps++ #[rawInt pos.line,rawInt pos.col, .ref c']) ((c',oc)::cs) (.ref c') ctv _ ((after _ tk ext).pins_of fun p hp=> ?_) ⟨?_, ?_, ?_⟩ ⟨_,rfl⟩ (fun p hp=>(au.mp hp).elim (fun z=> .inr (by rw [z];exact hge)) .inl) (Nat.le_trans hge (Nat.le_of_lt hlt)) (ag _ rfl) ?_ ⟨c',rfl,hcn,Nat.ne_of_gt (bg I.lt hge),I.nofs hge⟩ ext
  ·rcases au.mp hp with rfl | hp
   ·exact⟨af _ htb,pP.2.1,pP.2.2.1,pP.2.2.2.1,fun v z=>nomatch z⟩
   ·rcases au.mp hp with rfl | hp
    ·refine⟨af _ hoc,hcn, ?_,I.nofs hge,ncell⟩
     exact Nat.ne_of_gt (bg I.lt hge)
    ·have:=I.pin p (bt _ (.tail _ hp))
     exact⟨ext _ _ (inP p (bt _ hp)) this.1,this.2⟩
  ·rw [Array.toList_append]
   exact gY T.ok
  ·intro pos' cv h
   rw [Array.toList_append] at h
   rcases kA T.ok h with h | rfl
   ·obtain⟨c1,o1,e1,m1,r1⟩:=T.cod pos' cv h
    exact⟨c1,o1,e1, .tail _ m1,r1⟩
   ·exact⟨c',oc,rfl, .head _,vs,t,hd,hv⟩
  ·intro p hp
   rcases au.mp hp with rfl | hp
   ·exact Nat.ne_of_gt (bg hPlt hge)
   ·exact T.ne p hp
  ·exact⟨c',oc,vs,t,rfl,af _ hoc,hd,hv⟩
end
noncomputable abbrev aBu (qual:Str) (sc:Scope) (L f:Addr) (cd:Value) (cl:List (Str×Addr)):PySem.Env:=PySem.W.envX qual sc L f cd cl
noncomputable def cxL (CX:CXT) (P:Program) (w:World) (K:PySem.W.Frag) (mg:Str->Option Value) (base:Heap) (N:List Str) (qual:Str) (sc:Scope) (f:Addr) (cd:Value) (cl:List (Str×Addr)) (A:Around) (outer:List PySem.Env) (s:Shared) (H:Hp) (E:XK):Cx where
 prog:=P
 w:=w
 K:=K
 mg:=mg
 base:=base
 A:=A.deeper (aBu qual sc s.heap.objs.size f cd cl)
 N:=N
 s₀:=s
 H₀:=H
 env:=aBu qual sc s.heap.objs.size f cd cl
 outer:=outer
 stack:=aBu qual sc s.heap.objs.size f cd cl::outer
 ex:=[]
 calm:=true
 fn:=fun _=>false
 pn:=[]
 xe:=fun e s'=>wpAny (model P w) (A.deeper (aBu qual sc s.heap.objs.size f cd cl)) (leaving (aBu qual sc s.heap.objs.size f cd cl) e) (fun _ s''=>CX outer H s E e s'') (fun e' s''=>CX outer H s E e' s'') s'
structure LamSc (N:List Str) (sc:Scope):Prop where
 kind:sc.kind= .function
 co:sc.isCoroutine=false
 gen:sc.isGenerator=false
 nocell: ∀ x∈sc.names,x.2≠ .cell
 noloc: ∀ x,sc.names.lookup x≠some .local
section
variable {CX:CXT} {P:Program} {w:World} {K:PySem.W.Frag} {mg:Str->Option Value} {base:Heap} {N:List Str} {name qual:Str} {sc:Scope} {f:Addr} {cd pm ct:Value} {cl:List (Str×Addr)} {A:Around} {outer:List PySem.Env} {s:Shared} {H:Hp} {E:XK} {Q:VK} {params:Arguments} {body:Expr} {vs:List V}
theorem wO {h':Heap} {t':Nat} {m:Str->Option Value} (S:LamSc N sc) (hd:A.handled=none) (e0:Env0 P w K mg base A outer s H) (hns:h'.Ns s.heap.objs.size m) (hk: ∀ b o,s.heap.get? b=some o->h'.get? b=some o)
  (inj: ∀ x y c,cl.lookup x=some c->cl.lookup y=some c->x=y) (has: ∀ x,sc.names.lookup x=some .free-> ∃ c,cl.lookup x=some c) (cel: ∀ x c,cl.lookup x=some c->(∃ v,s.heap.IsCell c v)/\H c=none)
  (hl:vs.length=N.length) (hv: ∀ (i:Nat) (x:Str) (v:V),N[i]? =some x->vs[i]? =some v->sc.names.lookup x=some .free-> ∃ u c,aP v u/\cl.lookup x=some c/\s.heap.IsCell c (some u)):
  Inv (cxL CX P w K mg base N qual sc f cd cl A outer s H E) [] (vs.map some) H { s with heap:=h',toks:=t' }:=by
 have noA: ∀ b:Addr,b∉(cxL CX P w K mg base N qual sc f cd cl A outer s H E).ex:=fun b z=>absurd (show b∈([]:List Addr) from z) (by simp)
 have noC: ∀ x,sc.names.lookup x≠some .cell:=fun x z=>S.nocell _ (PySem.mem_of_lookup z) rfl
 refine⟨⟨e0.mod,S.kind,rfl,rfl,aj _,inj,fun y hy=> ?_,fun y c hy _=>(bf hy).elim,fun _=>hd,Around.frames_deeper e0.frames, .inr ⟨rfl,rfl⟩,fun b z=>absurd z (noA b),e0.bs,e0.bsz,fun b _ _=>noA b,fun b z=>absurd z (noA b),e0.funs,e0.frf⟩,
  rfl,e0.bare,Un.kept hk,⟨m,hns,fun i y v h1 h2 h3=> ?_⟩,fun y c h=> ?_,e0.hok.fresh (aj _),fun y c h=>(cel y c h).2,fun p hp=>absurd (show p∈([]:List (Addr×Obj)) from hp) (by simp),e0.hok.kept hk,(ao ..).trans hl⟩
 ·have hy:sc.names.lookup y=some .cell\/sc.names.lookup y=some .free:=hy
  rcases hy with hy | hy
  ·exact absurd hy (noC y)
  ·exact has y hy
 ·have h2':vs[i]? =some v:=by
   rw [List.getElem?_map] at h2
   cases q:vs[i]? with
   | none=>rw [q] at h2;cases h2
   | some a=>rw [q] at h2;cases h2;rfl
  have h3:sc.names.lookup y=some .local\/sc.names.lookup y=some .cell\/sc.names.lookup y=some .free:=h3
  rcases h3 with z | z | z
  ·exact absurd z (S.noloc y)
  ·exact absurd z (noC y)
  ·obtain⟨u,c,r,e1,o,ho,hd⟩:=hv i y v h1 h2' z
   exact⟨u,r, .inr ⟨.inr z,c,e1,o,hk _ _ ho,hd⟩⟩
 ·obtain⟨⟨v,o,ho,hd⟩,_⟩:=cel y c h
  exact⟨v,o,hk _ _ ho,hd⟩
theorem aFc {k:Nat} (S:LamSc N sc) (hobj:s.heap.get? f=some { cls:= .type "function",data:= .func (PySem.W.kla_fn name qual params body sc cl pm cd ct) }) (hcd:s.heap.CodeRec cd qual) (hbind:bindArgs (PySem.W.kla_fn name qual params body sc cl pm cd ct) ⟨[],[]⟩=pure [])
  (hr:Room (k+1) A) (e0:Env0 P w K mg base A outer s H)
  (inj: ∀ x y c,cl.lookup x=some c->cl.lookup y=some c->x=y) (has: ∀ x,sc.names.lookup x=some .free-> ∃ c,cl.lookup x=some c) (cel: ∀ x c,cl.lookup x=some c->(∃ v,s.heap.IsCell c v)/\H c=none)
  (hl:vs.length=N.length) (hv: ∀ (i:Nat) (x:Str) (v:V),N[i]? =some x->vs[i]? =some v->sc.names.lookup x=some .free-> ∃ u c,aP v u/\cl.lookup x=some c/\s.heap.IsCell c (some u))
  (hb: ∃ t,PE (cxL CX P w K mg base N qual sc f cd cl A outer s H E) body t/\t (vs.map some) H Q):
  codeAny (model P w) A (.call (.ref f) ⟨[],[]⟩) (CR CX outer P w H s Q E) s:=by
 have lim:s.heap.NoLimit:=e0.mod.nolimit.keeps fun b o e=>(e0.bs b o e).1
 refine PySem.W.kla_callFunE hr.depth hobj rfl S.co S.gen rfl hcd ?_
 rw [hbind]
 refine ae (wpAny_newFunctionEnv S.nocell (fun x hx=>nomatch hx) (fun h' hns hsb=>⟨lim.fresh _ hsb, ?_⟩) S.kind)
 have hk: ∀ b o,s.heap.get? b=some o->h'.get? b=some o:=fun b o e=>hsb.extBut b o (bh (ah e)) (af _ e)
 show codeAny _ _ (.expr body (aBu qual sc s.heap.objs.size f cd cl)) _ _
 obtain⟨t,ht,hq⟩:=hb
 have I:=wO (CX:=CX) (E:=E) (t':=s.toks+0) (qual:=qual) (f:=f) (cd:=cd) S hr.hd e0 hns hk inj has cel hl hv
 refine PySem.W.kla_codeExpr (wpAny_mono (ht [] _ (vs.map some) H Q I hq) (fun v s' hs=> ?_) fun e s' hs=>hs)
 obtain⟨x,H',J,rv,q⟩:=hs
 exact⟨x,H',J.os,J.bare,J.base,J.hok,rv,q⟩
end
section
variable {X:Cx} {ad:Ad} {pins:List (Addr×Obj)} {s:Shared} {σ:St} {H:Hp} {A:Around} {Ex:Value->Shared->Prop}
end
section
variable {X:Cx} {ad:Ad} {i kf:Nat} {en x q1:Str} {ea fa:Addr} {F:Fn} {fd:FuncData} {p p2 pos:Pos}
end
section
variable {X:Cx} {ad:Ad} {pins pins':List (Addr×Obj)} {s:Shared} {σ:St} {H H':Hp} {B h':Heap} {ea:Addr} {cls a0:Value} {D':Ends} {hd:ExceptHandler}
end
def aMr (P:Program) (w:World) (K:PySem.W.Frag) (mg:Str->Option Value) (base:Heap) (ad:Ad) (k:Nat) (fs:List Addr) (s:Shared) (G H:Hp) (a:Addr) (r:R):Prop:=
 ∀ (A:Around) (outer:List PySem.Env) (s1:Shared) (G1 H1:Hp) (Q:VK) (E:XK),Room k A->Step G H G1 H1->Env0 P w K mg base A outer s1 H1->(∀ b o,s.heap.get? b=some o->H b=none->b∉fs->s1.heap.get? b=some o/\H1 b=none)->
  RK K ad G1 H1 r Q (fun c H'=>E (.ref (ad.cls c)) none H')->codeAny (model P w) A (.call (.ref a) ⟨[],[]⟩) (CR (CXe P w) outer P w H1 s1 Q E) s1
section
variable {P:Program} {w:World} {K:PySem.W.Frag} {mg:Str->Option Value} {base:Heap} {ad:Ad} {k kf:Nat} {f fa a:Addr} {name qual:Str} {params:Arguments} {scope:Scope} {dV kV doc pm cdv ct oc:Value} {an od:Option Addr}
  {osl:Array (Option Value)} {N ps:List Str} {dn en x cx q1:Str} {cp xp ep ap hp' rq np dp rp tp:Pos} {F:Fn} {fd:FuncData} {A:Around} {outer:List PySem.Env} {s:Shared} {G H:Hp} {Q:VK} {E:XK} {args:Args} {r:R}
end
noncomputable def aJ5:Option SK.Gl->Bool
 | some (.py .isin)=>true
 | _=>false
noncomputable def qL (C:SK.Ctx):Expr->Option F
 | .Name x _=>(loc C x).map aT
 | _=>none
noncomputable def qE:Nat->SK.Ctx->Expr->Option F
 | 0,_,_=>none
 | n+1,C,e=>match e with
  | .Name x _=>(loc C x).map aB
  | .Constant c _ _=>(kD c).map rK
  | .BinOp a op b _=>(qE n C a).bind fun f=>(qE n C b).map fun g=>a9 op f g
  | .List es _=>if es.length<=1000 then(dO (qE n C) es).map eT else none
  | .Subscript a b _=>(qL C a).bind fun f=>(qE n C b).map fun g=>rIx f g
  | .Call f as kws cp=>if kws.isEmpty then(match f with
   | .Name x _=>if aJ5 (glo C x) then(two as).bind fun(a,t)=>(bJ t).bind fun(tn,_)=>(qE n C a).bind fun fa=>(glo C tn).bind fun g=>(isP g).map fun P=>rIs P fa else none
   | .Attribute o m ap=>(one as).bind fun a=>if(ap.endLine==cp.line)=true then(qL C o).bind fun f=>(qE n C a).bind fun g=>if m="count" then some (aHo aHs f g) else if m="index" then some (aHo aHt f g) else none else none
   | _=>none) else none
  | _=>none
noncomputable def qT:Nat->SK.Ctx->Expr->Option F
 | 0,_,_=>none
 | n+1,C,e=>match e with
  | .BoolOp .Or [a,b] _=>(qT n C a).bind fun f=>(qT n C b).map fun g=>rOr f g
  | .UnaryOp .Not a _=>(qT n C a).map hF
  | .Compare a [op] [b] _=>(qE n C a).bind fun f=>(qE n C b).map fun g=>bW op f g
  | .Call f as kws cp=>qE n C (.Call f as kws cp)
  | _=>none
mutual
noncomputable def qS:Nat->SK.Ctx->Stmt->Option FS
 | 0,_,_=>none
 | n+1,C,st=>match st with
  | .Assign [.Name x _] e _=>(loc C x).bind fun i=>(qE n C e).map fun f=>g0 i f
  | .If c a b _=>(qT n C c).bind fun f=>(qSs n C a).bind fun g=>(qSs n C b).map fun h=>sIf f g h
  | .Return (some e) _=>(qE n C e).map dG
  | _=>none
noncomputable def qSs:Nat->SK.Ctx->List Stmt->Option FS
 | 0,_,_=>none
 | n+1,C,l=>match l with
  | []=>some bQ
  | st::r=>(qS n C st).bind fun g=>(qSs n C r).map fun h=>aV g h
end
section
variable {X X0:Cx} {ad:Ad} {C:SK.Ctx} {A:Around} {Ex:Value->Shared->Prop}
end
noncomputable def quiet (A:Around):Around:={ A with handled:=none }
section
variable {P:Program} {w:World} {K:Frag} {mg:Str->Option Value} {base:Heap} {ad:Ad} {k:Nat} {tab:List (Str×SK.Gl)}
end
structure TbD (P:Addr) (q:Str) (ps0 ps:Array Value) (cs pl:List (Addr×Obj)):Prop where
 tb:Tb P q ps cs
 gr: ∃ more,ps=ps0++more
 nP: ∀ r∈pl,r.1≠P
 dj: ∀ p∈cs, ∀ r∈pl,p.1≠r.1
noncomputable abbrev pnL (P:Addr) (ps:Array Value) (cs pins:List (Addr×Obj)):List (Addr×Obj):=(P,PySem.W.tabObj ps)::(cs++pins)
def SPL (X:Cx) (P:Addr) (q:Str) (ps0:Array Value) (pins:List (Addr×Obj)) (D:Ends) (f:Flow) (s':Shared):Prop:=
 ∃ ps cs,TbD P q ps0 ps cs (X.pn++pins)/\SP X (pnL P ps cs pins) D f s'
def LPS (X:Cx) (P:Addr) (q:Str) (ps0:Array Value) (st:Stmt) (t:TS):Prop:=
 ∀ (pins:List (Addr×Obj)) (ps:Array Value) (cs:List (Addr×Obj)) (s:Shared) (σ:St) (H:Hp) (D:Ends),TbD P q ps0 ps cs (X.pn++pins)->Inv X (pnL P ps cs pins) σ H s->t D σ H->
  wpAny (model X.prog X.w) X.A (exec st X.env) (SPL X P q ps0 pins D) X.xe s
def aBv (X:Cx) (P:Addr) (q:Str) (ps0:Array Value) (st:List Stmt) (t:TS):Prop:=
 ∀ (pins:List (Addr×Obj)) (ps:Array Value) (cs:List (Addr×Obj)) (s:Shared) (σ:St) (H:Hp) (D:Ends),TbD P q ps0 ps cs (X.pn++pins)->Inv X (pnL P ps cs pins) σ H s->t D σ H->
  wpAny (model X.prog X.w) X.A (execs st X.env) (SPL X P q ps0 pins D) X.xe s
section
variable {X:Cx} {P:Addr} {q:Str} {ps0:Array Value} {st:Stmt} {cI:List Stmt} {t u t':TS} {pos:Pos} {ad:Ad} {Z:(St->Nat->Hp->Prop)->Prop} {f:F} {g h:FS}
theorem aBv.imp (a:aBv X P q ps0 cI t) (k: ∀ D σ H,t' D σ H->t D σ H):aBv X P q ps0 cI t':=fun pins ps cs s σ H D T I w=>a pins ps cs s σ H D T I (k D σ H w)
theorem aJ6 (a:PS X st t):LPS X P q ps0 st t:=fun pins ps cs s σ H D T I w=>L2.thn (a _ s σ H D I w) fun f s' hs=>⟨ps,cs,T,hs⟩
theorem aFd (a:PSs X cI t):aBv X P q ps0 cI t:=fun pins ps cs s σ H D T I w=>L2.thn (a _ s σ H D I w) fun f s' hs=>⟨ps,cs,T,hs⟩
theorem wP (h1:LPS X P q ps0 st t) (h2:aBv X P q ps0 cI u):aBv X P q ps0 (st::cI) (aNe t u):=by
 intro pins ps cs s σ H D T I h
 refine wpAny_execs_cons (L2.thn (h1 pins ps cs s σ H { D with nx:=u D } T I h) fun f s1 hq=> ?_)
 obtain⟨ps1,cs1,T1,hq⟩:=hq
 cases f with
 | next=>
  obtain⟨σ',H',I',hq⟩:=hq
  exact h2 pins ps1 cs1 s1 σ' H' D T1 I' hq
 | ret v=>exact⟨ps1,cs1,T1,hq⟩
 | brk=>exact⟨ps1,cs1,T1,hq⟩
 | cont=>exact⟨ps1,cs1,T1,hq⟩
end
def EPL (X:Cx) (P:Addr) (q:Str) (ps0:Array Value) (pins:List (Addr×Obj)) (σ:St) (Q:VK) (u:Value) (s':Shared):Prop:=
 ∃ ps cs,TbD P q ps0 ps cs (X.pn++pins)/\EP X (pnL P ps cs pins) σ Q u s'
noncomputable def aFe:Option SK.Slot->Option SK.Slot
 | some (.sh d)=>some (.sh d)
 | some (.rk C r)=>some (.rk C r)
 | _=>none
noncomputable def aJ7 (cs:List Nat) (ρ:Rho):Option (List SK.Slot):=dO (fun i=>aFe ρ[i]?) cs
noncomputable def eJ (T:R->R) (cs:List Nat) (f:SK.F):SK.F:=fun ρ=>match aJ7 cs ρ with
 | some sl=>T (f sl)
 | none=> .bad
theorem SL.cons0 {K:PySem.W.Frag} {ad:Ad} {G H:Hp} {ρ:Rho} {σ:St} {s:SK.Slot} {ov:Option V} (h:SL K ad G H ρ σ) (h0:SLi K ad G H s ov):SL K ad G H (s::ρ) (ov::σ):=
 ⟨by simp [h.len],fun i sl e=>by
  cases i with
  | zero=>cases e;exact⟨ov,rfl,h0⟩
  | succ i=>exact h.at_ i sl e⟩
theorem qX {K:PySem.W.Frag} {ad:Ad} {G H:Hp} {ρ:Rho} {σ:St} (hS:SL K ad G H ρ σ): ∀ {cs:List Nat} {sl:List SK.Slot},aJ7 cs ρ=some sl->
  ∃ vs:List V,vs.length=cs.length/\SL K ad G H sl (vs.map some)/\ ∀ (i j:Nat) (v:V),cs[i]? =some j->vs[i]? =some v->σ[j]? =some (some v)
 | [],sl,h=>by
  cases h
  exact⟨[],rfl,⟨rfl,fun i s e=>by cases e⟩,fun i j v h=>by cases h⟩
 | c::cs,sl,h=>by
  unfold aJ7 dO at h
  cases e:ρ[c]? with
  | none=>rw [e] at h;cases h
  | some s0=>
   rw [e] at h
   have key: ∀ (v:V),aFe (some s0)=some s0->σ[c]? =some (some v)->SLi K ad G H s0 (some v)->(dO (fun i=>aFe ρ[i]?) cs).map (s0:: ·)=some sl-> ∃ vs:List V,vs.length=(c::cs).length/\SL K ad G H sl (vs.map some)/\ ∀ (i j:Nat) (v:V),(c::cs)[i]? =some j->vs[i]? =some v->σ[j]? =some (some v):=fun v _ e1 sv h=>by
    obtain⟨r,h1,h2⟩:=zMd h
    subst h2
    obtain⟨vs,l,rp,hv⟩:=qX hS (cs:=cs) (sl:=r) h1
    refine⟨v::vs,by simp [l],rp.cons0 sv,fun i j w hi hw=> ?_⟩
    cases i with
    | zero=>cases hi;cases hw;exact e1
    | succ i=>exact hv i j w hi hw
   cases s0 with
   | sh d=>
    obtain⟨v,e1,rv⟩:=hS.sh e
    exact key v rfl e1 ⟨v,rfl,rv⟩ h
   | rk C r=>
    obtain⟨p,dx,d,l1,l2,e1,rv⟩:=hS.rk e
    exact key (.ref p) rfl e1 ⟨p,dx,d,l1,l2,rfl,rv⟩ h
   | no=>cases h
   | ow xs=>cases h
   | dc xs=>cases h
   | sd xs=>cases h
def m9 (P:Program) (w:World) (K:PySem.W.Frag) (mg:Str->Option Value) (base:Heap) (ad:Ad) (k:Nat) (f:Addr) (fd:FuncData) (dn:Str) (F:R->R):Prop:=
 ∀ (A:Around) (outer:List PySem.Env) (s:Shared) (G H:Hp) (a:Addr) (r:R) (Q:VK) (E:XK) (args:Args),Room (k+1) A->Env0 P w K mg base A outer s H->BindsTo s fd args [(dn, .ref a)]->PySem.W.FnAt a s.heap->H a=none->a∉frs outer->aMr P w K mg base ad k (frs outer) s G H a r->Same G H->
  RK K ad G H (F r) Q (fun _ _=>False)->codeAny (model P w) A (.call (.ref f) args) (CR (CXe P w) outer P w H s Q E) s
section
variable {X:Cx} {P c ft:Addr} {q tn dn:Str} {ps0 ps:Array Value} {cs pins:List (Addr×Obj)} {σ:St} {G H:Hp} {ρ:Rho} {s:Shared} {params:Arguments} {body:Expr} {sc:Scope} {lp p cp:Pos} {ad:Ad} {k:Nat} {F:R->R} {f:SK.F} {cap:List Nat} {fd:FuncData} {Q:VK}
theorem aFf (hfn: ∀ x,X.fn x=true) (hg:L2.Gl X tn) (hm:X.mg tn=some (.ref ft)) (hdb:(tn==("__debug__":Str))=false) (hk:PySem.W.keepIn X.K (.ref ft)=true) (hT:m9 X.prog X.w X.K X.mg X.base ad k.succ ft fd dn F) (hr:Room (k+2) X.A)
  (hb: ∀ (s:Shared) (u:Value),X.K.In s.heap->BindsTo s fd ⟨[u],[]⟩ [(dn,u)])
  (hx:P∈X.ex) (hpar:defaultsOf params X.env=([],[])) (hq:X.env.qual++"<lambda>"=q) (hfree: ∀ x,(x,NameKind.free)∈sc.names->X.env.kindOf x=some .cell\/X.env.kindOf x=some .free)
  (hcode:X.env.code= .ref c) (hC:PySem.W.CodeHd s.heap c P) (hB:s.heap.BuiltinsAt X.mg P)
  (S:LamSc (aO sc) sc) (hbind: ∀ cl pm cd ct,bindArgs (PySem.W.kla_fn "<lambda>" q params body sc cl pm cd ct) ⟨[],[]⟩=pure [])
  (hcl:cap.length=(aO sc).length) (hcap: ∀ (i:Nat) (x:Str),(aO sc)[i]? =some x-> ∃ j,cap[i]? =some j/\X.N[j]? =some x/\(X.env.kindOf x=some .cell\/X.env.kindOf x=some .free))
  (hbody: ∀ a cd cl A outer s H E,Room k (A.deeper (aBu q sc s.heap.objs.size a cd cl))->ME (cxL (CXe X.prog X.w) X.prog X.w X.K X.mg X.base (aO sc) q sc a cd cl A outer s H E) ad body f)
  (T:TbD P q ps0 ps cs (X.pn++pins)) (I:Inv X (pnL P ps cs pins) σ H s) (hG:Same G H) (hS:SL X.K ad G H ρ σ) (hrk:RK X.K ad G H (eJ F cap f ρ) Q fun _ _=>False):
  wpAny (model X.prog X.w) X.A (eval (.Call (.Name tn p) [.Lambda params body sc lp] [] cp) X.env) (EPL X P q ps0 pins σ Q) X.xe s:=by
 refine wpAny_Call_Name_kw (gH I hg hm ?_ hdb)
 refine PySem.W.callWith_K (h₀:=X.base) I.ok.mod.kin hk ?_ rfl rfl
 refine Calls.spliced_cons (wN I T.tb hx (fun p hp=>T.nP p hp) hpar hq hfree hcode hC hB fun a ps' cs' cv ctv s' I' T' more new hsz hobj hrec hco ext=>Calls.spliced_nil ⟨I'.kIn, ?_⟩)
 unfold eJ at hrk
 cases hcd:aJ7 cap ρ with
 | none=>rw [hcd] at hrk;exact hrk.elim
 | some ds=>
  rw [hcd] at hrk
  have hrk':RK X.K ad G H (F (f ds)) Q fun _ _=>False:=hrk
  obtain⟨vs,hvl,rvs,hvv⟩:=qX hS hcd
  have TD:TbD P q ps0 ps' cs' (X.pn++pins):=by
   refine⟨T', ?_,T.nP,fun p hp r hr=> ?_⟩
   ·obtain⟨m1,e1⟩:=T.gr
    obtain⟨m2,e2⟩:=more
    exact⟨m1++m2,by rw [e2,e1,Array.append_assoc]⟩
   ·rcases new p hp with z | z
    ·exact T.dj p z r hr
    ·have hin:r∈X.pn++pnL P ps cs pins:=by
      rcases List.mem_append.mp hr with y | y
      ·exact List.mem_append_left _ y
      ·exact bt _ (.tail _ (bt _ y))
     exact Nat.ne_of_gt (bg (ah (I.pin r hin).1) z)
  have hcl2: ∀ x d,(iT X.env.cells sc.names []).lookup x=some d->(x,NameKind.free)∈sc.names/\X.env.cells.lookup x=some d:=fun x d e=>by
   rcases hU e with ⟨k,h1,h2,h3⟩ | h
   ·subst h2
    refine⟨h1, ?_⟩
    obtain⟨c',hc'⟩:=I.ok.has x (hfree x h1)
    rw [hc'] at h3
    rw [h3]
    exact hc'
   ·cases h
  have hhas: ∀ x,sc.names.lookup x=some .free-> ∃ d,(iT X.env.cells sc.names []).lookup x=some d:=fun x e=>Option.isSome_iff_exists.mp (hV (cells:=X.env.cells) (acc:=[]) (PySem.mem_of_lookup e))
  have nst: ∀ b,b≠X.env.locals->b∉X.fs->b∉frs X.stack:=fun b n1 n2 z=>by
   rcases I.ok.stk with e | ⟨e,e2⟩
   ·rw [e] at z;exact n2 z
   ·rw [e] at z
    unfold frs at z
    rw [List.filterMap_cons,e2] at z
    rcases au.mp z with y | y
    ·exact n1 y
    ·exact n2 y
  have deed:aMr X.prog X.w X.K X.mg X.base ad k.succ (frs X.stack) s' G H a (f ds):=by
   intro A outer s1 G1 H1 Q1 E1 hR st1 e0 hkp hr1
   have cnl: ∀ x d,X.env.cells.lookup x=some d->d∉frs X.stack:=fun x d hd=>by
    refine nst d (fun z=> ?_) (fun z=> ?_)
    ·obtain⟨v,o,ho,hd'⟩:=I'.cell x d hd
     obtain⟨m,⟨o2,es,ep,e3,hd3,_⟩,_⟩:=I'.loc
     rw [z,e3] at ho
     cases ho
     rw [hd3] at hd'
     cases hd'
    ·exact absurd (I.ok.cab x d (hfn x) hd) (Nat.not_le.mpr (let ⟨o,ho⟩:=(I.ok.funs.mem z).2;ah ho.1))
   have Tx:DefX (cxL (CXe X.prog X.w) X.prog X.w X.K X.mg X.base (aO sc) q sc a cv (iT X.env.cells sc.names []) A outer s1 H1 E1) E1:=⟨rfl,rfl,rfl,fun e s' h=>h⟩
   obtain⟨c',rfl,cn1,cn2,cn3⟩:=hco
   refine aFc (vs:=vs) S (hkp _ _ hobj (I.hok.fresh hsz) (nst a (Nat.ne_of_gt (bg I.lt hsz)) (I.nofs hsz))).1 (hrec.at fun o e=>(hkp _ _ e cn1 (nst c' cn2 cn3)).1) (hbind _ _ _ _) hR e0 (fun x y d h1 h2=>I.ok.inj x y d (hcl2 x d h1).2 (hcl2 y d h2).2) hhas (fun x d h=> ?_) (by rw [hvl,hcl]) (fun i x v h1 h2 h3=> ?_) ⟨_,hbody a _ _ A outer s1 H1 E1 (hR.deeper _),G1,ds,_,st1.gh,rvs.step st1,p8 Tx,hr1⟩
   ·obtain⟨v,o,ho,hd⟩:=I'.cell x d (hcl2 x d h).2
    have kk:=hkp _ _ ho (I'.freeC x d (hcl2 x d h).2) (cnl x d (hcl2 x d h).2)
    exact⟨⟨v,o,kk.1,hd⟩,kk.2⟩
   ·obtain⟨j,e1,e2,e3⟩:=hcap i x h1
    have e4:=hvv i j v e1 h2
    obtain⟨m,hn,hl⟩:=I'.loc
    obtain⟨u,ru,lu⟩:=hl j x v e2 e4 (by rcases e3 with z | z<;>first | exact .inr (.inl z) | exact .inr (.inr z))
    rcases lu with ⟨z,_⟩ | ⟨_,d,hd,o,ho,hcel⟩
    ·rcases e3 with y | y<;>(rw [z] at y;cases y)
    ·obtain⟨d',hd'⟩:=hhas x h3
     have:=(hcl2 x d' hd').2
     rw [hd] at this
     cases this
     exact⟨u,d,ru,hd',o,(hkp _ _ ho (I'.freeC x d hd) (cnl x d hd)).1,hcel⟩
  refine wpAny_call (codeAny_mono (hT X.A X.stack s' G H a _ Q (fun _ _ _=>False) ⟨[.ref a],[]⟩ hr I'.env0 (hb s' _ I'.kIn) ⟨_,_,_,_,hobj⟩ (I.hok.fresh hsz) (nst a (Nat.ne_of_gt (bg I.lt hsz)) (I.nofs hsz)) deed hG hrk') fun r s2 hq=> ?_)
  cases r with
  | error e=>obtain⟨_,_,_,_,_,_,_,_,_,_,_,_,_,_,z⟩:=hq;exact z.elim
  | ok fl=>
   cases fl with
   | ret u=>exact⟨ps',cs',TD,I'.after hq⟩
   | next=>exact az hq
   | brk=>exact az hq
   | cont=>exact az hq
end
def LPE (X:Cx) (P:Addr) (q:Str) (ps0:Array Value) (e:Expr) (t:TE):Prop:=
 ∀ (pins:List (Addr×Obj)) (ps:Array Value) (cs:List (Addr×Obj)) (s:Shared) (σ:St) (H:Hp) (Q:VK),TbD P q ps0 ps cs (X.pn++pins)->Inv X (pnL P ps cs pins) σ H s->t σ H Q->
  wpAny (model X.prog X.w) X.A (eval e X.env) (EPL X P q ps0 pins σ Q) X.xe s
abbrev LME (X:Cx) (P:Addr) (q:Str) (ps0:Array Value) (ad:Ad) (e:Expr) (f:SK.F):Prop:=LPE X P q ps0 e (tE X ad f)
abbrev LMS (X:Cx) (P:Addr) (q:Str) (ps0:Array Value) (ad:Ad) (Z:(St->Nat->Hp->Prop)->Prop) (st:Stmt) (g:FS):Prop:=LPS X P q ps0 st (tS X ad Z g)
abbrev aKy (X:Cx) (P:Addr) (q:Str) (ps0:Array Value) (ad:Ad) (Z:(St->Nat->Hp->Prop)->Prop) (st:List Stmt) (g:FS):Prop:=aBv X P q ps0 st (tS X ad Z g)
section
variable {X:Cx} {P:Addr} {q:Str} {ps0 ps:Array Value} {cs pins:List (Addr×Obj)} {ad:Ad} {Z:(St->Nat->Hp->Prop)->Prop} {a e:Expr} {f:SK.F} {g h:FS} {st:Stmt} {sts:List Stmt} {pos pos':Pos} {σ:St} {G H:Hp} {ρ:Rho} {s:Shared} {Q:VK} {E:Nat->Hp->Prop}
theorem LPE.thn {k:D->R} (ha:LME X P q ps0 ad a f) (T:TbD P q ps0 ps cs (X.pn++pins)) (I:Inv X (pnL P ps cs pins) σ H s) (hG:Same G H) (hS:SL X.K ad G H ρ σ) (hx:XP X ad σ E) (hr:RK X.K ad G H ((f ρ).bind k) Q E):
  wpAny (model X.prog X.w) X.A (eval a X.env) (fun u s1=> ∃ ps1 cs1 v d G1 H1,TbD P q ps0 ps1 cs1 (X.pn++pins)/\Inv X (pnL P ps1 cs1 pins) σ H1 s1/\aP v u/\Step G H G1 H1/\Rep X.K ad G1 d v/\RK X.K ad G1 H1 (k d) Q E) X.xe s:=by
 cases e:f ρ with
 | ok d=>
  rw [e] at hr
  refine L2.thn (ha pins ps cs s σ H (fun v H1=> ∃ G1,Step G H G1 H1/\Rep X.K ad G1 d v) T I ⟨G,ρ,E,hG,hS,hx,by rw [e];exact fun v G1 H1 st q=>⟨G1,st,q⟩⟩) fun u s1 ⟨ps1,cs1,T1,v,H1,I1,r1,G1,st,q⟩=> ?_
  exact⟨ps1,cs1,v,d,G1,H1,T1,I1,r1,st,q,RK.step hr st⟩
 | ow xs=>
  rw [e] at hr
  refine L2.thn (ha pins ps cs s σ H (fun v H1=> ∃ G1,Step G H G1 H1/\Rep X.K ad G1 (.lst xs) v) T I ⟨G,ρ,E,hG,hS,hx,by rw [e];exact fun p vs G1 H1 st n m e' q=>bF st n m e' q⟩) fun u s1 ⟨ps1,cs1,T1,v,H1,I1,r1,G1,st,q⟩=> ?_
  exact⟨ps1,cs1,v, .lst xs,G1,H1,T1,I1,r1,st,q,RK.step hr st⟩
 | ex c=>
  rw [e] at hr
  refine L2.thn (ha pins ps cs s σ H (fun v H1=>False) T I ⟨G,ρ,E,hG,hS,hx,by rw [e];exact hr⟩) fun u s1 ⟨ps1,cs1,T1,v,H1,I1,r1,q⟩=>q.elim
 | bad=>
  rw [e] at hr
  exact az hr
theorem z9 (he:LME X P q ps0 ad e f) (hs:starEach [e] X.env=(false,eval e X.env)::starEach [] X.env):LME X P q ps0 ad (.List [e] pos) (eT [f]):=by
 intro pins ps cs s σ H Q T I ⟨G,ρ,E,hG,hS,hx,hr⟩
 refine wpAny_List_spliced ?_
 rw [hs]
 have hr':RK X.K ad G H ((f ρ).bind fun d=> .ow [d]) Q E:=by
  have e0:eT [f] ρ=(f ρ).bind fun d=> .ow [d]:=by
   unfold eT nH args
   cases f ρ<;>rfl
  rwa [e0] at hr
 refine Calls.spliced_cons (L2.thn (he.thn T I hG hS hx hr') fun u s1 ⟨ps1,cs1,v,d,G1,H1,T1,I1,r1,st,r2,k1⟩=>Calls.spliced_nil ⟨(by decide:1<=sizeLine), ?_⟩)
 have hf:H1 s1.heap.objs.size=none:=I1.hok.fresh (aj _)
 refine⟨ps1,cs1,T1, .ref s1.heap.objs.size,upd H1 s1.heap.objs.size (.lst [v]),I1.laid (t':=s1.toks) (fun b u e=>af _ e) (aj _) ?_,rfl,RK.ow_new k1 st.gh (aF.cons r2 aF.nil) hf⟩
 exact⟨(by decide:1<=sizeLine),[u],0, .cons r1 .nil,ag _ rfl⟩
theorem aFg {i:Nat} {x:Str} (hN:X.N.Nodup) (hi:X.N[i]? =some x) (hx:Loc X.env.scope x) (he:LME X P q ps0 ad e f) (hs:swapsWith e (some (.Name x pos')) pos.line X.env=pure false) (hf:X.fn x=true\/X.env.scope.names.lookup x=some .local):
  LMS X P q ps0 ad Z (.Assign [.Name x pos'] e pos) (iP i f):=by
 intro pins ps cs s σ H D T I ⟨G₀,G,ρ,E,S,hx',hr⟩
 refine wpAny_Assign_Name (L2.thn (he pins ps cs s σ H _ T I (aA9 S hx' hr)) fun v s1 ⟨ps1,cs1,T1,y,H1,I1,r1,q1⟩=> ?_) hs
 exact eQ I1 hN hi hx r1 (fun s2 I2=>⟨ps1,cs1,T1,_,H1,I2,q1⟩) hf
theorem aFh {i:Nat} {x:Str} {p ap cp:Pos} (hN:X.N[i]? =some x) (hv:Vis X.env.scope x) (hd:(x==("__debug__":Str))=false) (hcd:(x==("__classdict__":Str))=false) (he:LME X P q ps0 ad e f) (hs:starEach [e] X.env=(false,eval e X.env)::starEach [] X.env)
  (hline:(ap.endLine==cp.line)=true):LMS X P q ps0 ad Z (.Expr (.Call (.Attribute (.Name x p) "append" ap) [e] [] cp) pos) (lL i f):=by
 intro pins ps cs s σ H D' T I ⟨G₀,G,ρ,E,S,hx,hr⟩
 unfold lL at hr
 cases hq:ρ[i]? with
 | none=>rw [hq] at hr;exact hr.elim
 | some sl=>
  rw [hq] at hr
  cases sl with
  | no=>exact hr.elim
  | sh d=>exact hr.elim
  | dc d=>exact hr.elim
  | sd d=>exact hr.elim
  | rk _ _=>exact hr.elim
  | ow xs=>
   obtain⟨a,vs,h1,h2,h3,h4⟩:=S.sl.ow hq
   refine wpAny_Expr_any ?_ I.quiet rfl
   refine wpAny_Call_method_late rfl (hX hs) hline rfl (L2.thn (aZ hN hv hd hcd _ s σ H (fun v H1=>v= .ref a/\H1=H) I ⟨.ref a,h1,rfl,rfl⟩) fun v s1 hz_=> ?_)
   obtain⟨y,H1,I1,r1,rfl,rfl⟩:=hz_
   obtain⟨t1,t2⟩:=sZ I1 r1 (T:="list") (.inl ⟨rfl,vs,SqL.of h3⟩)
   refine⟨"list",_,PySem.F.plainAttrs_list,PySem.F.slot_list_append,PySem.F.type_list_append,t1,t2, ?_⟩
   rw [hs]
   refine Calls.callWith_builtin rfl (Calls.evalArgs_plain (Calls.spliced_cons (L2.thn (he pins ps cs s1 σ H1 (fun v H2=> ∃ d G1,Step G H1 G1 H2/\Rep X.K ad G1 d v/\OKo X ad G₀ (if xs.length<LIM then .nx (ρ.set i (.ow (xs++[d]))) else .rt .bad) D' E) T I1 (dB S hx hr fun v d G1 H2 st r k=>⟨d,G1,st,r,k⟩)) fun u s2 hz_=>Calls.spliced_nil ?_)))
   obtain⟨ps2,cs2,T2,w,H2,I2,r2,d,G1,st,r,k⟩:=hz_
   obtain⟨g1,h1'⟩:=cR st h2 h3
   by_cases hc:xs.length<LIM
   ·rw [if_pos hc] at k
    have r4:=h4.mono st.sg
    refine L2.thn (fT _ s2 σ H2 (.ref a) [w] v [u] (fun _ H3=>D'.nx σ H3) I2 r1 (.cons r2 .nil) ⟨a,vs,w,rfl,rfl,h1', ?_,k σ G1 _ ((S.step st).upd hq h1 g1 (r4.append (aF.cons r aF.nil)))⟩) fun _ s3 hz_=> ?_
    ·rw [h4.length]
     exact bg hc (by decide)
    ·obtain⟨_,H3,I3,_,q3⟩:=hz_
     exact⟨ps2,cs2,T2,σ,H3,I3,q3⟩
   ·rw [if_neg hc] at k
    exact k.elim
end
section
variable {X:Cx} {P:Addr} {q:Str} {ps0 ps:Array Value} {cs pins:List (Addr×Obj)} {ad:Ad} {Z:(St->Nat->Hp->Prop)->Prop} {a e it tg:Expr} {f:SK.F} {g h:FS} {st:Stmt} {sts body:List Stmt} {pos pos':Pos}
theorem aBw (a:MS X ad Z st g):LMS X P q ps0 ad Z st g:=aJ6 a
theorem aAa:aKy X P q ps0 ad Z [] bQ:=aFd uM
theorem wQ (h1:LMS X P q ps0 ad Z st g) (h2:aKy X P q ps0 ad Z sts h):aKy X P q ps0 ad Z (st::sts) (aV g h):=by
 refine aBv.imp (wP h1 h2) ?_
 rintro D' σ H ⟨G₀,G,ρ,E,S,hx,hr⟩
 refine⟨G₀,G,ρ,E,S,hx, ?_⟩
 unfold aV at hr
 cases e:g ρ with
 | nx ρ'=>rw [e] at hr;exact fun σ' G' H' S'=>⟨G₀,G',ρ',E,S',hx,hr⟩
 | bk ρ'=>rw [e] at hr;exact hr
 | ct ρ'=>rw [e] at hr;exact hr
 | ex c ρ'=>rw [e] at hr;exact hr
 | rt r=>
  rw [e] at hr
  cases r<;>exact hr
end
section
variable {X:Cx} {P:Addr} {q:Str} {ps0:Array Value} {ad:Ad} {Z:(St->Nat->Hp->Prop)->Prop} {a b e:Expr} {f g:SK.F} {gs hs:FS} {sa sb:List Stmt} {pos:Pos} {t u:TS} {tc tA tB:TT}
end
noncomputable def aFi (a:Arguments):Bool:=a.posonlyargs.isEmpty&&a.args.isEmpty&&a.vararg.isNone&&a.kwonlyargs.isEmpty&&a.kw_defaults.isEmpty&&a.kwarg.isNone&&a.defaults.isEmpty
theorem aAb {a:Arguments} (h:aFi a=true):a=⟨[],[],none,[],[],none,[]⟩:=by
 obtain⟨a1,a2,a3,a4,a5,a6,a7⟩:=a
 unfold aFi at h
 simp only [av,List.isEmpty_iff,Option.isNone_iff_eq_none] at h
 obtain⟨⟨⟨⟨⟨⟨h1,h2⟩,h3⟩,h4⟩,h5⟩,h6⟩,h7⟩:=h
 subst h1 h2 h3 h4 h5 h6 h7
 rfl
noncomputable def aAc (sc:Scope):Bool:=sc.kind== .function&& !sc.isCoroutine&& !sc.isGenerator&&sc.names.all (fun p=>p.2 != .cell&&p.2 != .local)&&decide (aO sc).Nodup&&(aO sc).all (fun x=> !(x==("__debug__":Str))&& !(x==("__classdict__":Str)))
theorem nA {sc:Scope} (h:aAc sc=true):LamSc (aO sc) sc/\(aO sc).Nodup/\ ∀ x∈aO sc,(x==("__debug__":Str))=false/\(x==("__classdict__":Str))=false:=by
 unfold aAc at h
 simp only [av] at h
 obtain⟨⟨⟨⟨⟨h1,h2⟩,h3⟩,h4⟩,h5⟩,h6⟩:=h
 have all: ∀ p∈sc.names,p.2≠ .cell/\p.2≠ .local:=fun p hp=>by
  have:=zAd h4 p hp
  simpa using this
 refine⟨⟨by simpa using h1,by simpa using h2,by simpa using h3,fun x hx=>(all x hx).1,fun x z=>(all _ (PySem.mem_of_lookup z)).2 rfl⟩,of_decide_eq_true h5,fun x hx=> ?_⟩
 have:=zAd h6 x hx
 simpa using this
section
variable {P:Program} {w:World} {K:Frag} {mg:Str->Option Value} {base:Heap} {ad:Ad} {k:Nat} {tab:List (Str×SK.Gl)} {fns:List (Nat×Fn)} {sc:Scope} {q:Str} {a:Addr} {cd:Value} {cl:List (Str×Addr)} {A:Around} {outer:List PySem.Env} {s:Shared} {H:Hp} {E:XK}
theorem aO9 (B:ExcK K ad) (TB:cU P w K mg base ad k tab) (FB:eA P w K mg base ad k fns) (hs:aAc sc=true) (hr:Room k (A.deeper (aBu q sc s.heap.objs.size a cd cl))):
  CtxOk (cxL (CXe P w) P w K mg base (aO sc) q sc a cd cl A outer s H E) ad ⟨tab,fns,sc,aO sc,[]⟩:=by
 obtain⟨S,nd,nm⟩:=nA hs
 refine⟨rfl,nd,fun x i e=> ?_,fun x e=>e,fun x g e=> ?_,fun x i e=>(dU e).2,rfl, ?_,hr.hd,B.exc,B.kin,B.kve,fun j m F' e=> ?_⟩
 ·obtain⟨e1,e2⟩:=kZ e
  have m:=kY e1
  exact⟨eN e1,e2,(nm x m).1,(nm x m).2⟩
 ·obtain⟨a,b⟩:=TB x g e
  refine⟨a, ?_⟩
  cases g with
  | fn j m F'=>
   obtain⟨r',f',h1,h2,h3,h4,h5⟩:=b
   exact⟨r',f',⟨h2,h3,h4⟩,hr.mono h1,h5⟩
  | exc c=>exact b
  | verr=>exact b
  | val d=>exact b
  | py p=>exact b
  | cls A ms=>exact⟨b.1,b.2.1,fun m n M hm=>let ⟨no,f,r,fd,ps,h1,h2,h3,h4⟩:=b.2.2 m n M hm;⟨no,f,r,fd,ps,h2,h3,hr.mono h1,h4⟩⟩
 ·exact Nat.lt_of_le_of_lt (Nat.add_le_add_left (by decide:62<=64) _) hr.units
 ·obtain⟨r',h1,h2,h3⟩:=FB j m F' e
  exact⟨r',⟨h2,h3⟩,hr.mono h1⟩
end
structure LawX (X:Cx) (ad:Ad) (C:SK.Ctx) (tn:Str) (F:R->R) (P c:Addr) (q:Str) (k:Nat):Prop where
 O:StOk X ad C
 nx: ∀ r c,F r≠ .ex c
 B:ExcK X.K ad
 TB:cU X.prog X.w X.K X.mg X.base ad k C.tab
 FB:eA X.prog X.w X.K X.mg X.base ad k C.fns
 told: ∃ ft fd dn,X.mg tn=some (.ref ft)/\PySem.W.keepIn X.K (.ref ft)=true/\m9 X.prog X.w X.K X.mg X.base ad (k+1) ft fd dn F/\ ∀ (s:Shared) (u:Value),X.K.In s.heap->BindsTo s fd ⟨[u],[]⟩ [(dn,u)]
 tdb:(tn==("__debug__":Str))=false
 room:Room (k+2) X.A
 ex:P∈X.ex
 ql:X.env.qual++"<lambda>"=q
 code:X.env.code= .ref c
 hC:PySem.W.CodeHd X.base c P
 hB:X.base.BuiltinsAt X.mg P
 pass:PassesOwn (model X.prog X.w) X.A X.env X.xe
 made: ∀ A ms,C.tab.lookup ("Rack":Str)=some (SK.Gl.cls A ms)->MkOk X ad A
noncomputable def aN4:Expr->Option (Arguments×Expr×Scope)
 | .Lambda ps body sc _=>some (ps,body,sc)
 | _=>none
theorem aFj {e:Expr} {ps:Arguments} {body:Expr} {sc:Scope} (h:aN4 e=some (ps,body,sc)): ∃ p,e= .Lambda ps body sc p:=by
 cases e<;>first | (cases h;exact⟨_,rfl⟩) | (cases h;done)
noncomputable def qY (tn:Str) (F:R->R) (C:SK.Ctx):Expr->Option SK.F
 | .Call (.Name x _) [l] [] _=>if x=tn/\C.sc.names.lookup x=some .globalImplicit then(aN4 l).bind fun(ps,body,sc)=>if aFi ps&&aAc sc then(dO (fun x=>dR C x) (aO sc)).bind fun cap=>(bA 50 ⟨C.tab,C.fns,sc,aO sc,[]⟩ body).map fun f=>eJ F cap f else none else none
 | _=>none
theorem wR {α β:Type} {f:α->Option β}: ∀ {l:List α} {r:List β},dO f l=some r-> ∀ (i:Nat) (a:α),l[i]? =some a-> ∃ b,r[i]? =some b/\f a=some b
 | [],_,_,i,a,h=>by cases h
 | x::l,r,h,i,a,ha=>by
  unfold dO at h
  cases e:f x with
  | none=>rw [e] at h;cases h
  | some y=>
   rw [e] at h
   obtain⟨r',h1,h2⟩:=zMd h
   subst h2
   cases i with
   | zero=>cases ha;exact⟨y,rfl,e⟩
   | succ i=>exact wR h1 i a ha
theorem wS {K:PySem.W.Frag} {ad:Ad} {G H:Hp} {F:R->R} {cap:List Nat} {f:SK.F} {ρ:Rho} {Q:VK} {E:Nat->Hp->Prop} (nx: ∀ r c,F r≠ .ex c) (h:RK K ad G H (eJ F cap f ρ) Q E):RK K ad G H (eJ F cap f ρ) Q fun _ _=>False:=by
 unfold eJ at h ⊢
 cases e:aJ7 cap ρ with
 | none=>rw [e] at h;exact h
 | some ds=>
  rw [e] at h
  have h':RK K ad G H (F (f ds)) Q E:=h
  show RK K ad G H (F (f ds)) Q _
  cases e2:F (f ds) with
  | ok d=>rw [e2] at h';exact h'
  | ow xs=>rw [e2] at h';exact h'
  | ex c=>exact absurd e2 (nx _ c)
  | bad=>rw [e2] at h';exact h'
section
variable {X:Cx} {ad:Ad} {C:SK.Ctx} {tn q:Str} {F:R->R} {P c:Addr} {k:Nat} {ps0:Array Value} {e:Expr} {f:SK.F}
theorem qZ (L:LawX X ad C tn F P c q k) (h:qY tn F C e=some f):LME X P q ps0 ad e f/\ ∃ a b c d,e= .Call a b c d:=by
 unfold qY at h
 split at h
 ·rename_i x p l cp
  split at h
  ·rename_i hx
   obtain⟨rfl,hgl⟩:=hx
   have hx:=zBd h
   clear h
   obtain⟨⟨ps,body,sc⟩,h0,h⟩:=hx
   obtain⟨lp,rfl⟩:=aFj h0
   simp only at h
   split at h
   ·rename_i hp
    rw [av] at hp
    obtain⟨hp1,hp2⟩:=hp
    cases aAb hp1
    have hx:=zBd h
    clear h
    obtain⟨cap,hcap,h⟩:=hx
    obtain⟨fb,hfb,rfl⟩:=zMd h
    refine⟨?_,_,_,_,_,rfl⟩
    intro pins ps cs s σ H Q T I ⟨G,ρ,E,hG,hS,hx,hr⟩
    obtain⟨ft,fd,dn,t1,t2,t3,t4⟩:=L.told
    have hC:PySem.W.CodeHd s.heap c P:=by
     obtain⟨o,vs,file,tf,flags,tg,inF,text,tt,e1,r⟩:=L.hC
     exact⟨o,vs,file,tf,flags,tg,inF,text,tt,(I.bs _ _ e1).1,r⟩
    have hB:s.heap.BuiltinsAt X.mg P:=by
     obtain⟨bm,o,b1,b2,b3,b4,b5,r⟩:=L.hB
     exact⟨bm,o,b1,b2,b3,b4,(I.bs _ _ b5).1,r⟩
    refine aFf (k:=k) (F:=F) (f:=fb) (cap:=cap) (dn:=dn) (fd:=fd) (ad:=ad) L.O.fn (L.O.cx.gk _ hgl) t1 L.tdb t2 t3 L.room t4 L.ex rfl L.ql (fun x hx=> ?_) L.code hC hB (nA hp2).1 (fun _ _ _ _=>rfl) (eY hcap) (fun i x hi=> ?_) (fun a cd cl A outer s H E hr=> ?_) T I hG hS (wS L.nx hr)
    ·obtain⟨j,e1⟩:=k8 hcap x (k9 hx)
     exact L.O.cx.cap x j e1
    ·obtain⟨j,e1,e2⟩:=wR hcap i x hi
     refine⟨j,e1, ?_,L.O.cx.cap x j e2⟩
     rw [L.O.cx.N]
     exact eN (dU e2).1
    ·exact((dQ (ad:=ad) 50).1 _ _ body fb (aO9 L.B L.TB L.FB hp2 hr) hfb).1
   ·cases h
  ·cases h
 ·cases h
end
noncomputable def wT (i j A:Nat) (e:F):FS:=fun ρ=>fQ ρ (e ρ) fun d=> .nx ((ρ.set i (.sh d)).set j (.rk A ⟨[],[],[]⟩))
section
variable {X:Cx} {ad:Ad} {Z:(St->Nat->Hp->Prop)->Prop} {C:SK.Ctx} {A:Addr}
theorem aFk {a:Expr} {fa:F} {i j kt k2:Nat} {x y z:Str} {px py pt pt2 np cp pos:Pos} (O:StOk X ad C) (MK:MkOk X ad A) (ha:ME X ad a fa) (sa:fZ a) (hi:loc C x=some i) (hj:loc C y=some j) (hg:L2.Gl X z) (hm:X.mg z=some (.ref A)) (hdb:(z==("__debug__":Str))=false)
  (hw:swappedStores [.Tuple [.Name x px, .Name y py] kt pt] (.Tuple [a, .Call (.Name z np) [] [] cp] k2 pt2) X.env=pure none):
  MS X ad Z (.Assign [.Tuple [.Name x px, .Name y py] kt pt] (.Tuple [a, .Call (.Name z np) [] [] cp] k2 pt2) pos) (wT i j A fa):=by
 obtain⟨f,k,fd,ps,M,F,hr,hb⟩:=MK.ok
 have hmap:dO (fun x=>loc C x) [x,y]=some [i,j]:=by simp [dO,hi,hj]
 obtain⟨P,_⟩:=aDt (tg:= .Tuple [.Name x px, .Name y py] kt pt) (xs:=[x,y]) (k:=2) O.cx.calm O.cx.nd rfl (O.nms hmap)
 refine PS.imp (sR (aAu (bE ha (bE (fun pins s σ H Q I hq=>pF (E:=fun _ _ _=>False) M F hr hg hm hb .nil (fun pins σ H s e s' I hc=>by obtain⟨_,_,_,_,_,_,_,_,_,_,_,_,_,_,z⟩:=hc;exact z.elim) hdb pins s σ H Q I hq) cL rfl) (aJ sa))) P rfl hw rfl) ?_
 rintro D' σ H ⟨G₀,G,ρ,E,S,hx,hr⟩
 refine dB S hx hr fun v d G1 H1 st r k=> ?_
 have S1:=S.step st
 intro p dx np ndx ne
 refine⟨p,dx,G1,rfl, ?_,S1.st.gh.free np,S1.st.gh.free ndx,ne,aE,by rw [aA ne,aE],fun d0 l1 l2 H' nd n1 n2 hR hk=>⟨rfl, ?_⟩⟩
 ·exact S1.st.gh.trans ((Same.upd_new ndx).trans (Same.upd_new (by rw [aA (Ne.symm ne)];exact np)))
 ·have back: ∀ {c:Addr},upd (upd H1 dx (.own p)) p (.ins A dx []) c=none->H1 c=none:=fun {c} hc=>by
   by_cases z:c=p
   ·rw [z];exact np
   ·by_cases z2:c=dx
    ·rw [z2];exact ndx
    ·rw [aA z,aA z2] at hc;exact hc
  have s1:Same H1 H':=fun b o e=>hk b o (aN e np) (by rw [aA (aN e np),aA (aN e ndx)];exact e)
  refine⟨show 2<=sizeLine by decide,fun t nt=> ?_⟩
  have s2:Same H1 (upd H' t (.tup [v, .ref p])):=s1.trans (Same.upd_new nt)
  refine⟨t,[v, .ref p],rfl,SqT.of aE,rfl,p6 rfl ?_⟩
  refine k _ G1 _ ((S1.set r).setR s2 (hR.up (Same.upd_new nt)) (fun a ha=> ?_) (S1.st.gh.trans s2))
  simp only [au,List.not_mem_nil,or_false] at ha
  rcases ha with z | z | z | z | z
  ·rw [z];exact np
  ·rw [z];exact ndx
  ·rw [z];exact back nd
  ·rw [z];exact back n1
  ·rw [z];exact back n2
end
structure MRd where
 A:Nat
 i:Nat
 M:FM
 fs:List F
noncomputable def aFl (C:SK.Ctx) (e:Expr):Option MRd:=(rkc C).bind fun(A,ms)=>(qW e).bind fun c=>(bJ c.o).bind fun(x,_)=>(loc C x).bind fun i=>(ms.lookup c.m).bind fun(n,M)=>if c.as.length<20 then(dO (bA 50 C) c.as).bind fun fs=>if fs.length=n then some ⟨A,i,M,fs⟩ else none else none
noncomputable def mkX:Stmt->Option (Str×Str)
 | .Assign [.Name y _] (.Call (.Name x _) [] [] _) _=>some (y,x)
 | _=>none
structure PRd where
 x:Str
 y:Str
 a:Expr
 z:Str
noncomputable def nB (e:Expr):Option Str:=match e with
 | .Call f as kws _=>if as.isEmpty&&kws.isEmpty then(bJ f).map (·.1) else none
 | _=>none
theorem jA {e:Expr} {z:Str} (h:nB e=some z): ∃ np cp,e= .Call (.Name z np) [] [] cp:=by
 unfold nB at h
 split at h
 ·split at h
  ·rename_i hc
   rw [av] at hc
   cases dH hc.1
   cases dH hc.2
   obtain⟨⟨x,p⟩,h1,rfl⟩:=zMd h
   cases aM h1
   exact⟨_,_,rfl⟩
  ·cases h
 ·cases h
noncomputable def aKz (st:Stmt):Option (Expr×Expr):=match st with
 | .Assign ts e _=>(one ts).map fun t=>(t,e)
 | _=>none
theorem wU {st:Stmt} {t e:Expr} (h:aKz st=some (t,e)): ∃ p,st= .Assign [t] e p:=by
 unfold aKz at h
 split at h
 ·obtain⟨t',h1,h2⟩:=zMd h
  cases bU h1
  cases h2
  exact⟨_,rfl⟩
 ·cases h
noncomputable def aMs (st:Stmt):Option PRd:=(aKz st).bind fun(t,e)=>(aCr t).bind fun(es,_)=>(aKo es e).bind fun q=>(nB q.b).map fun z=>⟨q.x,q.y,q.a,z⟩
theorem aFm {st:Stmt} {q:PRd} (h:aMs st=some q): ∃ px py kt pt np cp k2 pt2 pos,st= .Assign [.Tuple [.Name q.x px, .Name q.y py] kt pt] (.Tuple [q.a, .Call (.Name q.z np) [] [] cp] k2 pt2) pos:=by
 unfold aMs at h
 obtain⟨⟨t,e⟩,h1,h⟩:=zBd h
 obtain⟨⟨es,k,tp⟩,h2,h⟩:=zBd h
 obtain⟨r,h3,h⟩:=zBd h
 obtain⟨z,h4,rfl⟩:=zMd h
 obtain⟨pos,rfl⟩:=wU h1
 obtain⟨np,cp,e4⟩:=jA h4
 cases oW h2
 obtain⟨k2,tp2,rfl,rfl⟩:=wD h3
 exact⟨_,_,_,_,np,cp,_,_,_,by rw [<-e4]⟩
noncomputable def rkP (C:SK.Ctx) (q:PRd):Option FS:=if q.z=("Rack":Str)/\C.sc.names.lookup q.z=some .globalImplicit/\kP C q.x q.y=true then(rkc C).bind fun(A,_)=>(loc C q.x).bind fun i=>(loc C q.y).bind fun j=>(bA 50 C q.a).map fun f=>wT i j A f else none
noncomputable def rkS (C:SK.Ctx) (st:Stmt):Option FS:=match aMs st with
 | some q=>rkP C q
 | none=>match mkX st with
 | some (y,x)=>if x=("Rack":Str)/\C.sc.names.lookup x=some .globalImplicit then(rkc C).bind fun(A,_)=>(loc C y).map fun i=>aJ3 i A else none
 | none=>(match st with
   | .Expr e _=>(aFl C e).map fun r=>aF9 r.A r.i r.M r.fs
   | _=>none)
theorem nC {C:SK.Ctx} {A:Nat} {ms:List (Str×Nat×FM)} (h:rkc C=some (A,ms)):C.tab.lookup ("Rack":Str)=some (SK.Gl.cls A ms):=by
 unfold rkc at h
 split at h
 ·rename_i e
  cases h
  exact e
 ·cases h
theorem aJ8 {st:Stmt} {y x:Str} (h:mkX st=some (y,x)): ∃ p1 p2 p3 p4,st= .Assign [.Name y p1] (.Call (.Name x p2) [] [] p3) p4:=by
 unfold mkX at h
 split at h
 ·cases h;exact⟨_,_,_,_,rfl⟩
 ·cases h
section
variable {X:Cx} {ad:Ad} {Z:(St->Nat->Hp->Prop)->Prop} {C:SK.Ctx} {e:Expr}
theorem aAd (O:StOk X ad C) {r:MRd} (h:aFl C e=some r):PE X e (zY X ad r.A r.i r.M r.fs)/\ ∃ a b c d,e= .Call a b c d:=by
 unfold aFl at h
 have hx:=zBd h
 clear h
 obtain⟨⟨A,ms⟩,h0,h⟩:=hx
 have hx:=zBd h
 clear h
 obtain⟨c,h1,h⟩:=hx
 have hx:=zBd h
 clear h
 obtain⟨⟨x,p⟩,h2,h⟩:=hx
 obtain⟨rfl,hl⟩:=i9 h1
 clear h1
 obtain⟨o,m,ap,as,cp⟩:=c
 have h2':bJ o=some (x,p):=h2
 cases aM h2'
 have hx:=zBd h
 clear h
 obtain⟨i,h3,h⟩:=hx
 have hx:=zBd h
 clear h
 obtain⟨⟨n0,M⟩,h4,h⟩:=hx
 simp only at h
 split at h
 ·rename_i hlen
  obtain⟨fs,h5,h⟩:=zBd h
  split at h
  ·rename_i hn
   cases h
   obtain⟨_,RC,MO⟩:=(O.cx.gt _ _ (nC h0)).2
   obtain⟨v1,v2,v3,v4⟩:=O.cx.vis x i h3
   obtain⟨ma,ns⟩:=oX (dQ (ad:=ad) 50).1 O.cx h5
   exact⟨aJ0 RC (MO m n0 M h4) v1 v2 v3 v4 ma hn (fun a r e=>by
    subst e
    exact⟨aJ (ns a (.head _)),lH fun e he=>ns e (.tail _ he)⟩) (eY h5).symm (oZ ns hlen) hl,_,_,_,_,rfl⟩
  ·cases h
 ·cases h
theorem aJ9 {E₀:XK} (O:StOk X ad C) (MK: ∀ A ms,C.tab.lookup ("Rack":Str)=some (SK.Gl.cls A ms)->MkOk X ad A) {st:Stmt} {g:FS} (h:rkS C st=some g):MS X ad (Zt ad E₀ true) st g:=by
 unfold rkS at h
 split at h
 ·rename_i q hp
  obtain⟨px,py,kt,pt,np,cp,k2,pt2,pos,rfl⟩:=aFm hp
  unfold rkP at h
  split at h
  ·rename_i hc
   obtain⟨hz,hg,hpc⟩:=hc
   have hx:=zBd h
   clear h
   obtain⟨⟨A,ms⟩,h0,h⟩:=hx
   obtain⟨i,h1,h⟩:=zBd h
   obtain⟨j,h2,h⟩:=zBd h
   obtain⟨f,h3,rfl⟩:=zMd h
   rw [hz] at hg ⊢
   obtain⟨hd,hmg,_,_⟩:=O.cx.gt _ _ (nC h0)
   exact aFk O (MK A ms (nC h0)) ((dQ (ad:=ad) 50).1 X C _ _ O.cx h3).1 (aI h3).1 h1 h2 (O.cx.gk _ hg) hmg hd (gX (by rw [O.sc];simpa [kP] using hpc))
  ·cases h
 split at h
 ·rename_i y x hm
  obtain⟨p1,p2,p3,p4,rfl⟩:=aJ8 hm
  split at h
  ·rename_i hc
   obtain⟨rfl,hg⟩:=hc
   have hx:=zBd h
   clear h
   obtain⟨⟨A,ms⟩,h0,h⟩:=hx
   obtain⟨i,h1,rfl⟩:=zMd h
   have nm:=O.nm h1
   obtain⟨hd,hmg,_,_⟩:=O.cx.gt _ _ (nC h0)
   exact aE9 (MK A ms (nC h0)) (O.cx.gk _ hg) hmg hd O.cx.nd nm.1 nm.2.1 nm.2.2
  ·cases h
 ·split at h
  ·obtain⟨r,h1,rfl⟩:=zMd h
   obtain⟨pe,a,b,c,d,rfl⟩:=aAd O h1
   exact aJ2 pe rfl
  ·cases h
end
noncomputable def aMt:Stmt->Option (Str×Expr)
 | .Assign [.Name x _] (.List [e] _) _=>some (x,e)
 | _=>none
noncomputable def aMu:Stmt->Option (Str×Expr)
 | .Expr (.Call (.Attribute (.Name x _) m ap) [e] [] cp) _=>if m="append"/\(ap.endLine==cp.line)=true then some (x,e) else none
 | _=>none
theorem aFn {st:Stmt} {x:Str} {e:Expr} (h:aMt st=some (x,e)): ∃ p1 p2 p3,st= .Assign [.Name x p1] (.List [e] p2) p3:=by
 unfold aMt at h
 split at h
 ·cases h;exact⟨_,_,_,rfl⟩
 ·cases h
theorem aFo {st:Stmt} {x:Str} {e:Expr} (h:aMu st=some (x,e)): ∃ p1 ap cp p3,st= .Expr (.Call (.Attribute (.Name x p1) "append" ap) [e] [] cp) p3/\(ap.endLine==cp.line)=true:=by
 unfold aMu at h
 split at h
 ·split at h
  ·rename_i hc
   obtain⟨rfl,hl⟩:=hc
   cases h
   exact⟨_,_,_,_,rfl,hl⟩
  ·cases h
 ·cases h
noncomputable def tdS (tn:Str) (F:R->R) (C:SK.Ctx) (st:Stmt):Option FS:=match aMt st with
 | some (x,e)=>(qY tn F C e).bind fun f=>(loc C x).map fun i=>iP i (eT [f])
 | none=>match aMu st with
  | some (x,e)=>(qY tn F C e).bind fun f=>(loc C x).map fun i=>lL i f
  | none=>none
mutual
noncomputable def lS:Nat->Str->(R->R)->SK.Ctx->Stmt->Option FS
 | 0,_,_,_,_=>none
 | n+1,tn,F,C,st=>match tdS tn F C st with
  | some g=>some g
  | none=>match rkS C st with
  | some g=>some g
  | none=>pO 50 true C st
noncomputable def lSs:Nat->Str->(R->R)->SK.Ctx->List Stmt->Option FS
 | 0,_,_,_,_=>none
 | n+1,tn,F,C,l=>match l with
  | []=>some bQ
  | st::r=>(lS n tn F C st).bind fun g=>(lSs n tn F C r).map fun h=>aV g h
end
section
variable {X:Cx} {ad:Ad} {C:SK.Ctx} {tn q:Str} {F:R->R} {P c:Addr} {k:Nat} {ps0:Array Value}
theorem aMv {Z:(St->Nat->Hp->Prop)->Prop} (L:LawX X ad C tn F P c q k) {st:Stmt} {g:FS} (h:tdS tn F C st=some g):LMS X P q ps0 ad Z st g:=by
 unfold tdS at h
 split at h
 ·rename_i x e he
  obtain⟨p1,p2,p3,rfl⟩:=aFn he
  obtain⟨f,h1,h⟩:=zBd h
  obtain⟨i,h2,rfl⟩:=zMd h
  obtain⟨me,a',b',c',d',rfl⟩:=qZ (ps0:=ps0) L h1
  have nm:=L.O.nm h2
  exact aFg L.O.cx.nd nm.1 nm.2.1 (z9 me rfl) rfl nm.2.2
 ·split at h
  ·rename_i x e he
   obtain⟨p1,ap,cp,p3,rfl,hl⟩:=aFo he
   obtain⟨f,h1,h⟩:=zBd h
   obtain⟨i,h2,rfl⟩:=zMd h
   obtain⟨me,a',b',c',d',rfl⟩:=qZ (ps0:=ps0) L h1
   obtain⟨v1,v2,v3,v4⟩:=L.O.cx.vis x i h2
   exact aFh v1 v2 v3 v4 me rfl hl
  ·cases h
theorem aKa {E₀:XK} (L:LawX X ad C tn F P c q k): ∀ n:Nat,(∀ st g,lS n tn F C st=some g->LMS X P q ps0 ad (Zt ad E₀ true) st g)/\ ∀ l g,lSs n tn F C l=some g->aKy X P q ps0 ad (Zt ad E₀ true) l g
 | 0=>⟨(fun _ _ h=>by cases h),(fun _ _ h=>by cases h)⟩
 | n+1=>by
  obtain⟨hS,hSs⟩:=aKa (E₀:=E₀) L n
  obtain⟨kE,kL,kI⟩:=dQ (ad:=ad) 50
  refine⟨fun st g h=> ?_,fun l g h=> ?_⟩
  ·rw [lS] at h
   split at h
   ·rename_i g' hg
    cases h
    exact aMv L hg
   split at h
   ·rename_i g' hg
    cases h
    exact aBw (aJ9 L.O L.made hg)
   ·exact aBw ((i8 (ad:=ad) (E₀:=E₀) 50).1 X C true _ g L.O (fun z=>nomatch z) h)
  ·unfold lSs at h
   split at h
   ·cases h
    exact aAa
   ·obtain⟨ga,h1,h⟩:=zBd h
    obtain⟨gb,h2,rfl⟩:=zMd h
    exact wQ (hS _ ga h1) (hSs _ gb h2)
end
noncomputable def cxP (P0:Addr) (X:Cx):Cx:={ X with ex:=[P0] }
theorem aMw {fs ex:List Addr} {H H':Hp} {h h':Heap} (u:Un fs [] H H' h h'):Un fs ex H H' h h':=
 ⟨fun b o e n f _=>u.keep b o e n f (by simp),fun b o e n f _=>u.slot b o e n f (by simp),fun b o e n _=>u.free b o e n (by simp),fun b o e _=>u.there b o e (by simp),u.tups,u.frzs,u.tbls⟩
section
variable {X:Cx} {P0:Addr} {σ:St} {H:Hp} {s:Shared}
theorem aMx (I:Inv X [] σ H s) (hex:X.ex=[]) (hP:P0<X.s₀.heap.objs.size) (hb:X.base.get? P0=none) (hfs:P0∉X.fs) (hcell: ∀ x c,X.env.cells.lookup x=some c->X.s₀.heap.objs.size<=c):Inv (cxP P0 X) [] σ H s:=by
 refine⟨⟨I.ok.mod,I.ok.kind,I.ok.glob,I.ok.blt,I.ok.above,I.ok.inj,I.ok.has,I.ok.cab,I.ok.hd,I.ok.frames,I.ok.stk,fun b hb'=> ?_,I.ok.bs,I.ok.bsz,fun b o e hb'=> ?_,fun b hb'=> ?_,I.ok.funs,I.ok.frf⟩,I.os,I.bare, ?_,I.loc,I.cell,I.free,I.freeC,I.pin,I.hok,I.len⟩
 ·have e:b=P0:=List.mem_singleton.mp hb'
  subst e
  exact⟨bh (bg hP I.ok.above),fun x c h z=>absurd (bg hP (hcell x c h)) (by rw [z];exact Nat.lt_irrefl _)⟩
 ·have e':b=P0:=List.mem_singleton.mp hb'
  subst e'
  have e2:X.base.get? b=some o:=e
  rw [hb] at e2
  cases e2
 ·have e:b=P0:=List.mem_singleton.mp hb'
  subst e
  exact hfs
 ·have u:=I.base
  rw [hex] at u
  exact aMw u
theorem aKb {q:Str}:Tb P0 q #[] []:=⟨trivial,(fun pos cv h=>by cases h),(fun p hp=>by cases hp)⟩
theorem aAe {ad:Ad} {C:SK.Ctx} {tn q:Str} {F:R->R} {c:Addr} {k n:Nat} {b:List Stmt} {g:FS} {ds:List D} {vs:List V} {m:Nat} (L:LawX (cxP P0 X) ad C tn F P0 c q k) (hg:lSs n tn F C b=some g) (I:Inv (cxP P0 X) [] (vs.map some++ak m none) H s) (hH:X.H₀=H) (hpn:X.pn=[])
  (ht:s.heap.get? P0=some (PySem.W.tabObj #[])) (hn:H P0=none) (hfs:P0∉X.fs) {G:Hp} (hG:Same G H) (r:aF X.K ad G ds vs) (hm:g (ds.map SK.Slot.sh++ak m .no)= .rt (.ok (.bl true))):
  wpAny (model X.prog X.w) X.A (execs b X.env) (fun f s'=>f= .ret (.bool true)/\ ∃ σ' H' ps,Inv (cxP P0 X) [] σ' H' s'/\s'.heap.get? P0=some (PySem.W.tabObj ps)) X.xe s:=by
 have I1:Inv (cxP P0 X) (pnL P0 #[] [] []) (vs.map some++ak m none) H s:=I.pins_of fun p hp=>by
  have e:p=(P0,PySem.W.tabObj #[]):=List.mem_singleton.mp hp
  subst e
  exact⟨ht,hn,(I.ok.exf P0 (.head _)).1,hfs,fun v z=>nomatch z⟩
 have TD:TbD P0 q #[] #[] [] ((cxP P0 X).pn++[]):=by
  refine⟨aKb,⟨#[],by simp⟩,fun r hr=> ?_,fun p hp=>by cases hp⟩
  have e:r∈X.pn++[]:=hr
  rw [hpn] at e
  cases e
 refine L2.thn ((aKa (ps0:= #[]) (E₀:=fun _ _ _=>False) L n).2 b g hg [] #[] [] s _ H ⟨fun _ _=>False,fun v _=>v= .bl true,fun _ _=>False,fun _ _=>False⟩ TD I1 ⟨G,G,ds.map SK.Slot.sh++ak m .no,fun _ _ _=>False, ?_,⟨fun σ pins H s e s' _ hc=> ?_,fun z=>nomatch z⟩, ?_⟩) fun f s' hs=> ?_
 ·have hG':Same G (cxP P0 X).H₀:=by
   show Same G X.H₀
   rw [hH]
   exact hG
  have:=iC (X:=cxP P0 X) (ad:=ad) (n:=m) hG' r
  have e:(cxP P0 X).H₀=H:=hH
  rwa [e] at this
 ·obtain⟨_,_,_,_,_,_,_,_,_,_,_,_,_,_,_,_,z⟩:=hc
  exact z.elim
 ·rw [hm]
  intro v G' H' st q
  unfold Rep at q
  exact q
 ·obtain⟨ps,cs,T,hs⟩:=hs
  cases f with
  | next=>obtain⟨_,_,_,z⟩:=hs;exact z.elim
  | brk=>obtain⟨_,_,_,z⟩:=hs;exact z.elim
  | cont=>obtain⟨_,_,_,z⟩:=hs;exact z.elim
  | ret u=>
   obtain⟨v,σ',H',J,rv,qv⟩:=hs
   have qv':v= .bl true:=qv
   subst qv'
   obtain rfl:u=Value.bool true:=rv
   refine⟨rfl,σ',H',ps,J.pins_of (fun p hp=>by cases hp),(J.pin (P0,PySem.W.tabObj ps) ?_).1⟩
   exact bt _ (.head _)
end
noncomputable def aKc (H:Hp) (P0:Addr):Hp:=fun b=>if b=P0 then some (.lst []) else H b
theorem nD {H:Hp} {P0 b:Addr} (h:aKc H P0 b=none):H b=none/\b≠P0:=by
 unfold aKc at h
 by_cases e:b=P0
 ·rw [if_pos e] at h;cases h
 ·rw [if_neg e] at h;exact⟨h,e⟩
theorem aFp {H:Hp} {P0 b:Addr} (h:H b=none) (n:b≠P0):aKc H P0 b=none:=by
 unfold aKc
 rw [if_neg n]
 exact h
section
variable {P:Program} {w:World} {K:Frag} {mg mb:Str->Option Value} {ad:Ad} {fa a P0 c:Addr} {s₁:Shared} {name qual x:Str} {params:Arguments} {body:List Stmt} {scope:Scope} {dV kV doc pm ct oc:Value} {an od:Option Addr} {osl:Array (Option Value)} {N:List Str}
  {H:Hp} {tn q:Str} {F:R->R} {k n m:Nat} {C:SK.Ctx} {g:FS} {d:D}
theorem q0 (KX:K.In s₁.heap) (hns:s₁.heap.Ns mainGlobals mg) (hb:s₁.heap.Ns builtinsNs mb) (hbb: ∀ x:Str,x≠"__name__"->mb x=bootBuiltins x) (hlim:s₁.heap.NoLimit) (hg:s₁.gens= #[])
  (lk:K.lookup fa=some ⟨oc,od, .func (PySem.W.fnOf name qual params body scope dV kV doc pm an (.ref c) ct),osl⟩) (hcd:PySem.W.codeIn K (.ref c) qual=true) (S:FnScope N [x] scope)
  (hbind: ∀ (s:Shared) (u:Value),BindsTo s (PySem.W.fnOf name qual params body scope dV kV doc pm an (.ref c) ct) ⟨[u],[]⟩ [(x,u)]) (hr:Room (k+3) callerA)
  (hC:PySem.W.CodeHd s₁.heap c P0) (hB:s₁.heap.BuiltinsAt mg P0) (hT:s₁.heap.get? P0=some (PySem.W.tabObj #[])) (hKP:K.lookup P0=none)
  (hO:aLk H) (hok:HOk P w H s₁.heap) (nd: ∀ b o es ep,s₁.heap.get? b=some o->o.data= .dict es ep->H b=none) (nK: ∀ b o,K.lookup b=some o->H b=none) (hn:H P0=none) (hcn:H c=none) (hbn: ∀ bm o,s₁.heap.get? bm=some o->o.data= .plain->H bm=none)
  (LX: ∀ base:Heap,K.In base->base.Ns mainGlobals mg->PySem.W.CodeHd base c P0->base.BuiltinsAt mg P0->LawX (cxP P0 (lX (CXe P w) P w K mg base N qual scope fa (.ref c) callerA [] s₁ H fun _ _ _=>False)) ad C tn F P0 c q k)
  (hread:lSs n tn F C body=some g) {G:Hp} (hG:Same G H) (rp:aF K ad G [d] [.ref a]) (hN:N.length=m+1) (hm:g ([d].map SK.Slot.sh++ak m .no)= .rt (.ok (.bl true))):
  codeAny (model P w) callerA (.call (.ref fa) ⟨[.ref a],[]⟩) (fun r s'=>r= .ok (.ret (.bool true))/\OldK s₁.heap s'.heap/\s'.os=s₁.os/\AllBare s'.gens) s₁:=by
 let base:=aGg s₁.heap (aKc H P0)
 have base_of: ∀ {b:Addr} {o:Obj},s₁.heap.get? b=some o->H b=none->b≠P0->base.get? b=some o:=fun e n z=>xJ e (aFp n z)
 have notP: ∀ {b:Addr} {o:Obj},s₁.heap.get? b=some o->o≠PySem.W.tabObj #[]->b≠P0:=fun {b o} e z y=>by
  rw [y,hT] at e
  exact z (Option.some.inj e).symm
 have nsK: ∀ {b:Addr} {mm:Str->Option Value},s₁.heap.Ns b mm->base.Ns b mm:=fun {b mm} ⟨o,es,ep,e,dd,r⟩=>⟨o,es,ep,base_of e (nd _ _ _ _ e dd) (notP e fun z=>by rw [z] at dd;cases dd),dd,r⟩
 have hKb:K.In base:=fun b o e=>base_of (KX b o e) (nK b o e) fun z=>by rw [z,hKP] at e;cases e
 have hM:Mod K mg base:=⟨hKb,nsK hns,⟨mb,nsK hb,hbb⟩,let ⟨mc,h1,h2⟩:=hlim;⟨mc,nsK h1,h2⟩⟩
 have e0:Env0 P w K mg base callerA [] s₁ H:=⟨rfl,hM,fun b o e=>⟨(nN e).1,(nD (nN e).2).1⟩,Nat.le_of_eq (sN _ _),trivial,fun b hb=>absurd (show b∈([]:List Addr) from hb) (by simp),hok, .of_eq hg⟩
 have hCb:PySem.W.CodeHd base c P0:=by
  obtain⟨o,vs,file,tf,flags,tg,inF,text,tt,e1,r⟩:=hC
  exact⟨o,vs,file,tf,flags,tg,inF,text,tt,base_of e1 hcn (by obtain⟨_,_,_,_,_,_,_,_,z⟩:=r;exact z),r⟩
 have hBb:base.BuiltinsAt mg P0:=by
  obtain⟨bm,o,b1,b2,b3,b4,b5,b6,b7,b8⟩:=hB
  exact⟨bm,o,b1,b2,b3,b4,base_of b5 (hbn bm o b5 b8) b4,b6,b7,b8⟩
 have L:=LX base hKb (nsK hns) hCb hBb
 let X:=lX (CXe P w) P w K mg base N qual scope fa (.ref c) callerA [] s₁ H fun _ _ _=>False
 have hkind: ∀ y∈[(x,Value.ref a)],scope.names.lookup y.1=some .local\/(scope.names.lookup y.1=some .cell/\((cellsFrom (s₁.heap.objs.size+1) scope.names []).lookup y.1).isSome=true):=fun y hy=>by
  rw [List.mem_singleton.mp hy]
  rcases S.par x (.head _) with z | z
  ·exact .inl z
  ·exact .inr ⟨z,PySem.W.cellsFrom_some _ _ _ (.inl z)⟩
 refine codeAny_call_function hr.depth (KX _ _ lk) rfl S.co S.gen rfl (PySem.W.codeRec_of KX hcd) (hbind _ _ _ _ _ _ ?_)
 refine wpAny_newFunctionEnv_cells S.kind hkind fun env he s1 y=> ?_
 subst he
 refine⟨hlim.keeps y.toInCall.keep,codeAny_func ?_⟩
 have I0:Inv X [] (start N [.ref a]) H s1:=iK (vs:=[.ref a]) (us:=[.ref a]) (ps:=[x]) S hr.hd e0 rfl (.cons rfl .nil) y
 have hPlt:P0<s₁.heap.objs.size:=ah hT
 have hbP:base.get? P0=none:=by
  cases e:base.get? P0 with
  | none=>rfl
  | some o=>exact absurd rfl (nD (nN e).2).2
 have fs0: ∀ b,b∉X.fs:=fun b z=>absurd (show b∈([]:List Addr) from z) (by simp)
 have I1:Inv (cxP P0 X) [] (start N [.ref a]) H s1:=aMx I0 rfl hPlt hbP (fs0 P0) fun z d h=>Nat.le_of_lt (y.above z d (PySem.mem_of_lookup h))
 have est:start N [V.ref a]=[V.ref a].map some++ak m none:=by
  unfold L2.start
  have e:N.length - [V.ref a].length=m:=by rw [hN];simp
  rw [e]
 rw [est] at I1
 have hT1:s1.heap.get? P0=some (PySem.W.tabObj #[]):=y.toInCall.keep _ _ hT
 refine wpAny_mono (aAe (X:=X) L hread I1 rfl rfl hT1 hn (fs0 P0) hG rp hm) (fun fl s' hs=> ?_) fun e s' hs=> ?_
 ·obtain⟨rfl,σ',H',ps,J,hPs⟩:=hs
  refine⟨rfl,⟨fun b o e=> ?_,fun b o e=> ?_⟩,J.os,J.bare⟩
  ·by_cases hbP:b=P0
   ·subst hbP
    rw [hT] at e
    cases e
    obtain⟨co,vs,_,_,_,_,_,_,_,e1,e2,e3,e4,_⟩:=hC
    exact .inr (.inl ⟨⟨c,co,vs,e1,e2,e3,e4⟩,rfl, #[],ps,rfl,by rw [hPs];simp [PySem.W.tabObj]⟩)
   ·refine .inl ?_
    have nx:b∉(cxP P0 X).ex:=fun z=>hbP (List.mem_singleton.mp z)
    cases hh:H b with
    | none=>exact J.base.keep b o e hh (fs0 b) nx
    | some u=>
     rcases hO b with z | ⟨ob,xs,z⟩
     ·rw [hh] at z;cases z
     ·have z2:=J.base.frzs b ob _ z
      obtain⟨e1,_⟩:=hok b _ z
      obtain⟨e2,_⟩:=J.hok b _ z2
      rw [e] at e1;cases e1
      exact e2
  ·by_cases hbP:b=P0
   ·subst hbP
    exact⟨_,hPs⟩
   ·exact J.base.there b o e fun z=>hbP (List.mem_singleton.mp z)
 ·have no: ∀ (e:Value) (s'':Shared),CXe P w [] H s₁ (fun _ _ _=>False) e s''->False:=fun e s'' z=>by
   obtain⟨_,_,_,_,_,_,_,_,_,_,_,_,_,_,z⟩:=z
   exact z
  have hs':wpAny (model P w) (callerA.deeper (envOfC qual scope s₁.heap.objs.size fa (.ref c))) (leaving (envOfC qual scope s₁.heap.objs.size fa (.ref c)) e) (fun _ s''=>CXe P w [] H s₁ (fun _ _ _=>False) e s'') (fun e' s''=>CXe P w [] H s₁ (fun _ _ _=>False) e' s'') s':=hs
  exact wpAny_mono hs' (fun _ s'' z=>(no _ _ z).elim) fun e' s'' z=>(no _ _ z).elim
end
structure Td where
 dn:Str
 en:Str
 x:Str
 cx:Str
section
variable {P:Program} {w:World} {K:Frag} {mg:Str->Option Value} {base:Heap} {ad:Ad} {k kf:Nat} {x0 qual q1:Str} {st:Stmt} {f fa:Addr} {fd fdx:FuncData} {t:Td} {F:Fn}
noncomputable def defBody:Stmt->List Stmt
 | .FunctionDef _ _ b _ _ _ _ _ _ _=>b
 | _=>[]
noncomputable def aAf:Stmt->Option Scope
 | .FunctionDef _ _ _ _ _ _ sc _ _ _=>some sc
 | _=>none
end
theorem StOk.P {X:Cx} {ad:Ad} {C:SK.Ctx} {P0:Addr} (O:StOk X ad C):StOk (cxP P0 X) ad C:=by
 refine⟨⟨O.cx.N,O.cx.nd,O.cx.vis,O.cx.gk,fun x g e=>⟨(O.cx.gt x g e).1, ?_⟩,O.cx.cap,O.cx.calm,O.cx.un,O.cx.hd,O.cx.exc,O.cx.kin,O.cx.kve,fun j n F e=> ?_⟩,O.fn,O.sc,O.lc,O.exm,O.exi⟩
 ·have h:=(O.cx.gt x g e).2
  cases g with
  | fn k n f=>obtain⟨r,f',⟨h1,h2,h3⟩,h4⟩:=h;exact⟨r,f',⟨h1,h2,h3⟩,h4⟩
  | cls A ms=>obtain⟨h1,h2,h3⟩:=h;exact⟨h1,h2,fun m n M hm=>let ⟨no,f,r,fd,ps,z1,z2,z3,z4⟩:=h3 m n M hm;⟨no,f,r,fd,ps,z1,z2,z3,z4⟩⟩
  | exc c=>exact h
  | verr=>exact h
  | val d=>exact h
  | py p=>exact h
 ·obtain⟨r,⟨h1,h2⟩,h3⟩:=O.cx.fnv j n F e
  exact⟨r,⟨h1,h2⟩,h3⟩
section
variable {P:Program} {w:World} {K:Frag} {mg:Str->Option Value} {base:Heap} {ad:Ad} {k:Nat} {tab:List (Str×SK.Gl)} {fns:List (Nat×Fn)} {sc:Scope} {qual x tn:Str} {fa P0 c:Addr} {s₁:Shared} {H:Hp} {F:R->R} {bs:List Str}
theorem aFq (B:ExcK K ad) (TB:cU P w K mg base ad k tab) (FB:eA P w K mg base ad k fns) (hs:bS (aC sc) [x] sc=true) (hr:Room (k+3) callerA)
  (told: ∃ ft fd dn,mg tn=some (.ref ft)/\PySem.W.keepIn K (.ref ft)=true/\m9 P w K mg base ad (k+1) ft fd dn F/\ ∀ (s:Shared) (u:Value),K.In s.heap->BindsTo s fd ⟨[u],[]⟩ [(dn,u)])
  (nx: ∀ r c,F r≠ .ex c) (tdb:(tn==("__debug__":Str))=false) (hC:PySem.W.CodeHd base c P0) (hB:base.BuiltinsAt mg P0) (mk: ∀ A ms,tab.lookup ("Rack":Str)=some (SK.Gl.cls A ms)-> ∃ f r fd ps,r<=k/\Mk K A f/\FnOk P w K mg base (CXe P w) r f fd ps (spI K ad A)/\eK K fd ps []):
  LawX (cxP P0 (lX (CXe P w) P w K mg base (aC sc) qual sc fa (.ref c) callerA [] s₁ H fun _ _ _=>False)) ad ⟨tab,fns,sc,aC sc,bs⟩ tn F P0 c ((envOfC qual sc s₁.heap.objs.size fa (.ref c)).qual++"<lambda>") k:=by
 have hr2:Room (k+2) (callerA.deeper (envOfC qual sc s₁.heap.objs.size fa (.ref c))):=hr.deeper _
 have O:StOk (cxP P0 (lX (CXe P w) P w K mg base (aC sc) qual sc fa (.ref c) callerA [] s₁ H fun _ _ _=>False)) ad ⟨tab,fns,sc,aC sc,bs⟩:=(o7 B TB FB hs (hr2.mono (by omega))).P
 exact⟨O,nx,B,TB,FB,told,tdb,hr2, .head _,rfl,rfl,hC,hB,PassesOwn.leaving (Q₁:=fun e s''=>CXe P w [] H s₁ (fun _ _ _=>False) e s''),fun A ms e=>let ⟨f,r,fd,ps,h1,h2,h3,h4⟩:=mk A ms e;⟨f,r,fd,ps,h2,h3,hr2.mono (by omega),h4⟩⟩
end
noncomputable def without (K:Frag) (P0:Addr):Frag:=K.filter fun p=>p.1 != P0
section
variable {P:Program} {w:World} {K:Frag} {mg mb:Str->Option Value} {ad:Ad} {fa a P0 c:Addr} {s₁:Shared} {name qual x:Str} {params:Arguments} {body:List Stmt} {scope:Scope} {dV kV doc pm ct oc:Value} {an od:Option Addr} {osl:Array (Option Value)} {N:List Str}
  {tn q:Str} {F:R->R} {k n m:Nat} {C:SK.Ctx} {g:FS} {d:D} {vs:List Value} {ns:List Int}
theorem wV (KX:K.In s₁.heap) (hns:s₁.heap.Ns mainGlobals mg) (hb:s₁.heap.Ns builtinsNs mb) (hbb: ∀ x:Str,x≠"__name__"->mb x=bootBuiltins x) (hlim:s₁.heap.NoLimit) (hg:s₁.gens= #[])
  (ha:s₁.heap.get? a=some { cls:= .type "list",data:= .seq vs.toArray }) (hi:IntsAre vs ns) (hl:ns.length<=sizeLine)
  (lk:K.lookup fa=some ⟨oc,od, .func (PySem.W.fnOf name qual params body scope dV kV doc pm an (.ref c) ct),osl⟩) (hcd:PySem.W.codeIn K (.ref c) qual=true) (S:FnScope N [x] scope)
  (hbind: ∀ (s:Shared) (u:Value),BindsTo s (PySem.W.fnOf name qual params body scope dV kV doc pm an (.ref c) ct) ⟨[u],[]⟩ [(x,u)]) (hr:Room (k+3) callerA)
  (hC:PySem.W.CodeHd s₁.heap c P0) (hB:s₁.heap.BuiltinsAt mg P0) (hT:s₁.heap.get? P0=some (PySem.W.tabObj #[])) (hKP:K.lookup P0=none)
  (LX: ∀ (base:Heap) (H:Hp),K.In base->base.Ns mainGlobals mg->PySem.W.CodeHd base c P0->base.BuiltinsAt mg P0->LawX (cxP P0 (lX (CXe P w) P w K mg base N qual scope fa (.ref c) callerA [] s₁ H fun _ _ _=>False)) ad C tn F P0 c q k)
  (hread:lSs n tn F C body=some g) (hrep: ∀ H:Hp,aLk H->SqL K H a (ns.map V.int)-> ∃ G,Same G H/\aF K ad G [d] [.ref a]) (hN:N.length=m+1) (hm:g ([d].map SK.Slot.sh++ak m .no)= .rt (.ok (.bl true))):
  codeAny (model P w) callerA (.call (.ref fa) ⟨[.ref a],[]⟩) (fun r s'=>r= .ok (.ret (.bool true))/\OldK s₁.heap s'.heap/\s'.os=s₁.os/\AllBare s'.gens) s₁:=by
 have rv:=l8 hi
 have lenV:=hi.length
 cases hk:K.lookup a with
 | some o=>
  have e:=KX a o hk
  rw [ha] at e
  cases e
  obtain⟨G,hG,rp⟩:=hrep (fun _=>none) (fun _=> .inl rfl) (.inr ⟨_,vs.toArray,_,hk,rfl,rfl,rfl,by rw [aw,lenV];exact hl,by simpa using rv⟩)
  exact q0 (H:=fun _=>none) KX hns hb hbb hlim hg lk hcd S hbind hr hC hB hT hKP (fun _=> .inl rfl) (fun b u z=>by have z':(none:Option HO)=some u:=z;cases z') (fun _ _ _ _ _ _=>rfl) (fun _ _ _=>rfl) rfl rfl (fun _ _ _ _=>rfl) (fun base=>LX base _) hread hG rp hN hm
 | none=>
  have ne: ∀ {b:Addr} {o:Obj},s₁.heap.get? b=some o->o.data≠ .seq vs.toArray->b≠a:=fun {b o} e z y=>by
   rw [y,ha] at e
   cases e
   exact z rfl
  let H:Hp:=fun b=>if b=a then some (.frz { cls:= .type "list",data:= .seq vs.toArray } (.lst (ns.map V.int))) else none
  have hno: ∀ {b:Addr},b≠a->H b=none:=fun z=>if_neg z
  have hO:aLk H:=fun b=>by
   by_cases hb:b=a
   ·exact .inr ⟨_,_,if_pos hb⟩
   ·exact .inl (if_neg hb)
  have hok:HOk P w H s₁.heap:=fun b u z=>by
   by_cases hb:b=a
   ·have z':=(if_pos hb).symm.trans z
    cases z'
    subst hb
    exact⟨ha,by rw [ao];exact hl,vs,_,rv,ha⟩
   ·have z':=(if_neg hb).symm.trans z
    cases z'
  obtain⟨G,hG,rp⟩:=hrep H hO (.inl (.inr ⟨{ cls:= .type "list",data:= .seq vs.toArray },if_pos rfl⟩))
  refine q0 (H:=H) KX hns hb hbb hlim hg lk hcd S hbind hr hC hB hT hKP hO hok (fun b o es ep e z=>hno (ne e (by rw [z];exact fun y=>nomatch y))) (fun b o e=>hno fun y=>by rw [y,hk] at e;cases e) (hno (ne hT fun y=>nomatch y)) ?_ (fun bm o e z=>hno (ne e (by rw [z];exact fun y=>nomatch y))) (fun base=>LX base _) hread hG rp hN hm
  obtain⟨o,ws,_,_,_,_,_,_,_,e1,_,e3,_⟩:=hC
  exact hno (ne e1 (by rw [e3];exact fun y=>nomatch y))
end
theorem aKd {p:Program} {loose:List Str} {mean:ExcName->Option Value} {mg mb:Str->Option Value} {h:Heap} {P0:Addr} (T:Top p loose mean mg mb h) (hT:h.get? P0=some (PySem.W.tabObj #[])):h.BuiltinsAt mg P0:=by
 obtain⟨bm,ob,b1,b2,b3,b4,b5,b6⟩:=T.bmain
 refine⟨bm,ob,b1,b2,fun z=> ?_,fun z=> ?_,b3,b4,b5,b6⟩
 ·obtain⟨o,es,ep,e,hd,_⟩:=T.g
  rw [<-z,b3] at e
  cases e
  rw [b6] at hd
  cases hd
 ·rw [z,hT] at b3
  cases b3
  cases b6
structure LawT (P:Program) (w:World) (K:Frag) (mg:Str->Option Value) (fa:Addr) (name:Str) (ad:Ad) (C:SK.Ctx) (tn:Str) (F:R->R) (g:FS) (k n m:Nat) (c P0:Addr) (params:Arguments) (body:List Stmt) (scope:Scope):Prop where
 lk: ∃ oc od dV kV doc pm an ct osl,K.lookup fa=some ⟨oc,od, .func (PySem.W.fnOf name name params body scope dV kV doc pm an (.ref c) ct),osl⟩/\ ∀ (s:Shared) (u:Value),BindsTo s (PySem.W.fnOf name name params body scope dV kV doc pm an (.ref c) ct) ⟨[u],[]⟩ [("_law_script",u)]
 cd:PySem.W.codeIn K (.ref c) name=true
 sc:bS (aC scope) ["_law_script"] scope=true
 room:Room (k+3) callerA
 tab:tabIn K name=some (c,P0)
 out:K.lookup P0=none
 lx: ∀ (s₁:Shared) (base:Heap) (H:Hp),K.In base->base.Ns mainGlobals mg->PySem.W.CodeHd base c P0->base.BuiltinsAt mg P0->LawX (cxP P0 (lX (CXe P w) P w K mg base (aC scope) name scope fa (.ref c) callerA [] s₁ H fun _ _ _=>False)) ad C tn F P0 c ((envOfC name scope s₁.heap.objs.size fa (.ref c)).qual++"<lambda>") k
 read:lSs n tn F C body=some g
 len:(aC scope).length=m+1
 tru: ∀ ns:List Int,g ([D.lst (ns.map D.int)].map SK.Slot.sh++ak m .no)= .rt (.ok (.bl true))
theorem walkT {l:PySem.W.OpenLaw} {q:Program} {loose:List Str} {XP:(Str->Option Value)->Heap->Prop} {YP:World->Heap->Prop} {d:DefRec} {K:Params->PySem.W.Frag} (hn:l.most=some 63) (hdf:d.params.defaults=[])
  (hY: ∀ (w:World) (h:Heap),YP w h->(K w.params).In h) (hrec: ∃ e,(recsOf q).find? (fun e=>e.name==d.name)=some e)
  (F: ∀ (w:World) (mg:Str->Option Value) (fa:Addr) (h:Heap),(K w.params).In h->h.Ns mainGlobals mg->mg d.name=some (.ref fa)-> ∃ ad C tn F g k n m c P0 params body scope,LawT l.prog w (K w.params) mg fa d.name ad C tn F g k n m c P0 params body scope):
  PySem.W.WalkO q loose XP YP l.row.toRowW d [] (fun f vs=>PySem.call f vs):=by
 refine Att.attach_call hn hdf fun w s₀ s₁ mg mb fa o pm cd doc a vs ns G Y ho hd hcd hmg hobj hints hlen hg=> ?_
 have KX:=hY w _ Y
 obtain⟨ad,C,tn,F',g,k,n,m,c,P0,params,body,scope,L⟩:=F w mg fa _ KX G.T.g hmg
 obtain⟨e,he⟩:=hrec
 obtain⟨hC,hT⟩:=tab_of G.T KX he L.tab
 obtain⟨oc,od,dV,kV,doc',pm',an,ct,osl,lk,hb⟩:=L.lk
 refine wV (d:= .lst (ns.map D.int)) KX G.T.g G.T.b G.T.builtins G.T.nolimit hg hobj hints (Nat.le_trans hlen (by decide)) lk L.cd (cM L.sc).1 hb L.room hC (aKd G.T hT) hT L.out (fun base H=>L.lx s₁ base H) L.read (fun H _ hS=>⟨H,Same.refl _,aF.cons (by unfold Rep;exact⟨a,_,rfl,hS,aF.map_int⟩) aF.nil⟩) L.len (L.tru ns)
theorem cN {a b:FS} {ρ ρ':Rho} (h:a ρ= .nx ρ'):aV a b ρ=b ρ':=by simp [aV,h]
theorem wW {a b:FS} {ρ:Rho} {r:R} (h:a ρ= .rt r):aV a b ρ= .rt r:=by simp [aV,h]
theorem fP {i:Nat} {e:F} {ρ:Rho} {d:D} (h:e ρ= .ok d):g0 i e ρ= .nx (ρ.set i (.sh d)):=by simp [g0,h,fQ]
theorem lI {i:Nat} {e:F} {ρ:Rho} {d:List D} (h:e ρ= .ow d):iP i e ρ= .nx (ρ.set i (.ow d)):=by simp [iP,h]
theorem cO {e:F} {ρ:Rho} {d:D} (h:e ρ= .ok d):dG e ρ= .rt (.ok d):=by simp [dG,h]
theorem sG {c:F} {a b:FS} {ρ:Rho} (h:c ρ= .ok (.bl true)):sIf c a b ρ=a ρ:=by simp [sIf,h]
theorem lJ {c:F} {a b:FS} {ρ:Rho} (h:c ρ= .ok (.bl false)):sIf c a b ρ=b ρ:=by simp [sIf,h]
theorem cP {n:Nat} {b:FS} {ds:List D} {d:D} (h:b (ds.map Slot.sh++ak (n - ds.length) .no)= .rt (.ok d)):fnOf n b ds= .ok d:=by simp [fnOf,h]
theorem nE {xs:List Int}:eL (xs.map D.int)=some xs:=by
 induction xs with
 | nil=>rfl
 | cons x r ih=>simp [eL,ih]
theorem aW {op:Operator} {a b:F} {ρ:Rho} {x y:D} (h:a ρ= .ok x) (k:b ρ= .ok y):a9 op a b ρ=kM op x y:=by simp [a9,h,k,R.bind]
theorem gR {op:CmpOp} {a b:F} {ρ:Rho} {x y:D} (h:a ρ= .ok x) (k:b ρ= .ok y):bW op a b ρ=g9 op x y:=by simp [bW,h,k,R.bind]
theorem q8 {a b:F} {ρ:Rho} {x y:D} (h:a ρ= .ok x) (k:b ρ= .ok y):rIx a b ρ=dIx x y:=by simp [rIx,h,k,R.bind]
theorem wX {a b:F} {ρ:Rho} {x:List D} {y:D} (h:a ρ= .ow x) (k:b ρ= .ok y):rIx a b ρ=dIx (.lst x) y:=by simp [rIx,h,k,R.bind]
theorem aBx {a b:F} {ρ:Rho} (h:a ρ= .ok (.bl true)):fI a b ρ=b ρ:=by simp [fI,h,R.bind]
theorem aBy {a b:F} {ρ:Rho} (h:a ρ= .ok (.bl false)):fI a b ρ= .ok (.bl false):=by simp [fI,h,R.bind]
theorem kB {f:Fn} {a:F} {ρ:Rho} {x:D} (h:a ρ= .ok x):aD f [a] ρ=f [x]:=by simp [aD,nH,args,h,RA.cons,RA.then]
theorem nF {f:Fn} {a:F} {ρ:Rho} {x:List D} (h:a ρ= .ow x):aD f [a] ρ=f [.lst x]:=by simp [aD,nH,args,h,RA.cons,RA.then]
theorem kC {f:Fn} {a b:F} {ρ:Rho} {x y:D} (h:a ρ= .ok x) (k:b ρ= .ok y):aD f [a,b] ρ=f [x,y]:=by simp [aD,nH,args,h,k,RA.cons,RA.then]
theorem f9 {f:Fn} {a b c:F} {ρ:Rho} {x y z:D} (h:a ρ= .ok x) (k:b ρ= .ok y) (l:c ρ= .ok z):aD f [a,b,c] ρ=f [x,y,z]:=by simp [aD,nH,args,h,k,l,RA.cons,RA.then]
theorem aMy {a b:F} {ρ:Rho} {x y:D} (h:a ρ= .ok x) (k:b ρ= .ok y):jH [a,b] ρ= .ok (.tup [x,y]):=by simp [jH,nH,args,h,k,RA.cons,RA.then]
theorem kF {f:D->Option (Option D)} {P:D->Prop}: ∀ {ds:List D},(∀ d∈ds, ∃ x,f d=some (some x)/\P x)-> ∃ xs,bT f ds=some xs/\xs.length=ds.length/\ ∀ x∈xs,P x
 | [],_=>⟨[],rfl,rfl,nofun⟩
 | d::r,h=>by
  obtain⟨x,e,p⟩:=h d (.head _)
  obtain⟨xs,e',l,q⟩:=kF (ds:=r) fun x m=>h x (.tail _ m)
  refine⟨x::xs,by simp [bT,e,e'],by simp [l], ?_⟩
  intro y m;cases m with
  | head=>exact p
  | tail _ m=>exact q y m
theorem dX {n:Nat} {cs:List Nat} {it e:F} {ρ:Rho} {ds:List D} {P:D->Prop} (hi:it ρ= .ok (.lst ds)\/it ρ= .ok (.tup ds)\/it ρ= .ow ds) (h: ∀ d∈ds, ∃ ts x,tgt n d=some ts/\e (ts++pM cs ρ)= .ok x/\P x):
  ∃ xs,bO n cs it none e ρ= .ow xs/\xs.length=ds.length/\ ∀ x∈xs,P x:=by
 obtain⟨xs,k,l,q⟩:=kF (f:=eI n (pM cs ρ) none e) (P:=P) (ds:=ds) fun d m=>by
  obtain⟨ts,x,a,b,c⟩:=h d m
  exact⟨x,by simp [eI,a,b],c⟩
 refine⟨xs, ?_,l,q⟩
 rcases hi with hi | hi | hi<;>simp [bO,hi,R.bind,items,jT,k]
theorem eO {a:F} {ρ:Rho} {n:Nat} (h:a ρ= .ok (.int n)) (l:n<=100000):bN a ρ= .ok (.lst (nY n)):=by
 have:(-100000:Int)<=(n:Int)/\(n:Int)<=100000:=by omega
 simp [bN,h,R.bind,aF0,this]
theorem gA {n:Nat} {d:D} (h:d∈nY n): ∃ k:Nat,k<n/\d= .int k:=by
 simp only [nY,aq,List.mem_range] at h
 obtain⟨k,a,b⟩:=h;exact⟨k,a,b.symm⟩
theorem dJ {n:Nat}:(nY n).length=n:=by simp [nY]
theorem gS {xs:List D} {n:Nat} {x:D} (h:xs[n]? =some x):dIx (.lst xs) (.int n)= .ok x:=by
 obtain⟨l,e⟩:=ax.1 h
 simp [dIx,items,ixD,l,e]
theorem aBz {i j:Int} (h:sml j=true):kM .Mult (.int i) (.int j)= .ok (.int (i * j)):=by simp [kM,eF,h]
theorem lK {i j:Int} (h:0<j):kM .Mod (.int i) (.int j)= .ok (.int (i % j)):=by simp [kM,eF,h]
theorem wY {i j:Int} (h:0<j) (l:j<1073741824):kM .FloorDiv (.int i) (.int j)= .ok (.int (i / j)):=by simp [kM,eF,h,l]
theorem aKe {i:Int} (a: -18446744073709551616<i) (b:i<18446744073709551616):sml i=true:=by simp [sml,a,b]
theorem sH {xs:List D}:a8 xs=true↔ ∀ x∈xs,plain x=true:=by
 induction xs with
 | nil=>simp [a8]
 | cons x r ih=>simp [a8,ih]
theorem aFr {x y:D} (a:plain x=true) (b:plain y=true) (c:dep y<=60):jS x y=true:=by
 have:min (dep x) (dep y)<=60:=Nat.le_trans (Nat.min_le_right ..) c
 simp [jS,a,b,this]
theorem o8 {x y:D} (h:jS x y=true):g9 .Eq x y= .ok (.bl (deq x y)):=by simp [g9,h]
mutual
theorem aAg: ∀ d:D,plain d=true->deq d d=true
 | .non,_=>rfl
 | .bl b,_=>by simp [deq]
 | .int i,_=>by simp [deq]
 | .str x,_=>by simp [deq]
 | .tup xs,h=>by simp only [deq];exact jB xs h
 | .lst xs,h=>by simp only [deq];exact jB xs h
 | .exc _,h=>by simp [plain] at h
 | .fn _,h=>by simp [plain] at h
theorem jB: ∀ xs:List D,a8 xs=true->rP xs xs=true
 | [],_=>rfl
 | x::r,h=>by
  simp only [a8,av] at h
  simp [rP,aAg x h.1,jB r h.2]
end
noncomputable def cV:R->R
 | .ow xs=>if jS (.lst xs) (.lst xs)&&decide (xs.length<LIM) then .ok (.bl (deq (.lst xs) (.lst xs))) else .bad
 | _=> .bad
theorem wZ (r:R) (c:Nat):cV r≠ .ex c:=fun z=>by
 unfold cV at z
 split at z
 ·split at z<;>cases z
 ·cases z
section
variable {X:Cx} {ad:Ad} {G₀:Hp} {k:Nat} {a:Addr} {r:R} {xs:List D} {dn kn:Str} {np dp kp cp:Pos}
structure DeedX (X:Cx) (ad:Ad) (G₀:Hp) (k:Nat) (a:Addr) (r:R) (dn:Str):Prop where
 h0:X.N[0]? =some dn
 hdl:X.env.scope.names.lookup dn=some .local
 hdd:(dn==("__debug__":Str))=false
 fn:PySem.W.FnAt a X.s₀.heap
 hn:X.H₀ a=none
 fs:a∉X.fs
 ex:X.ex=[]
 deed:aMr X.prog X.w X.K X.mg X.base ad k X.fs X.s₀ G₀ X.H₀ a r
 room:Room k X.A
noncomputable def aMz (X:Cx) (ad:Ad) (G₀:Hp) (a:Addr) (r:R):TE:=fun σ H Q=>σ[0]? =some (some (.ref a))/\ ∃ G,Step G₀ X.H₀ G H/\RK X.K ad G H r Q fun _ _=>False
theorem w4 (d:DeedX X ad G₀ k a r dn):PE X (.Call (.Name dn np) [] [] dp) (aMz X ad G₀ a r):=by
 intro pins s σ H Q I ⟨hσ,G,st,hq⟩
 refine wpAny_Call_Name_kw ?_
 obtain⟨m5,hn5,hl5⟩:=I.loc
 obtain⟨u5,r5,l5⟩:=hl5 0 dn (.ref a) d.h0 hσ (.inl d.hdl)
 cases (show u5=Value.ref a from r5)
 have hm5:m5 dn=some (.ref a):=by
  have hk:X.env.kindOf dn=some .local:=d.hdl
  rcases l5 with ⟨_,e⟩ | ⟨k,_⟩
  ·exact e
  ·rcases k with k | k<;>(rw [hk] at k;cases k)
 refine wpAny_Name (wpAny_loadName_local I.ok.kind d.hdl hn5 hm5 ?_) d.hdd
 have keep: ∀ b o,X.s₀.heap.get? b=some o->X.H₀ b=none->b∉X.fs->s.heap.get? b=some o/\H b=none:=fun b o e n f=>by
  have nx:b∉X.ex:=by rw [d.ex];simp
  exact⟨I.base.keep b o e n f nx,I.base.free b o e n nx⟩
 have hfn1:PySem.W.FnAt a s.heap:=by
  obtain⟨oc,od,fd,sl,e⟩:=d.fn
  exact⟨oc,od,fd,sl,(keep _ _ e d.hn d.fs).1⟩
 refine PySem.W.callWith_F0 hfn1 (wpAny_call ?_)
 refine codeAny_mono (d.deed X.A X.stack s G H Q (fun _ _ _=>False) d.room st I.env0 keep hq) fun res s2 hres=> ?_
 cases res with
 | error e=>obtain⟨_,_,_,_,_,_,_,_,_,_,_,_,_,_,z⟩:=hres;exact z.elim
 | ok fl=>
  cases fl with
  | ret u=>exact I.after hres
  | next=>exact az hres
  | brk=>exact az hres
  | cont=>exact az hres
theorem aAh (d:DeedX X ad G₀ k a (.ow xs) dn) (hu:X.A.units+62<cLine) (hk:ME X ad (.Name kn kp) (aB 2)):
  PE X (.Compare (.Call (.Name dn np) [] [] dp) [.Eq] [.Name kn kp] cp) (fun σ H Q=>σ[0]? =some (some (.ref a))/\ ∃ G ρ E,Step G₀ X.H₀ G H/\SL X.K ad G H ρ σ/\XP X ad σ E/\RK X.K ad G H ((aB 2 ρ).bind fun y=>g9 .Eq (.lst xs) y) Q E):=by
 intro pins s σ H Q I ⟨hσ,G,ρ,E,st,hS,hx,hr⟩
 refine wpAny_Compare1 (L2.thn (w4 d pins s σ H (fun v H1=> ∃ G1,Step G H G1 H1/\Rep X.K ad G1 (.lst xs) v) I ⟨hσ,G,st,fun p vs G1 H1 st1 n m e' q=>bF st1 n m e' q⟩) fun u s1 hz_=> ?_) rfl
 obtain⟨v,H1,I1,r1,G1,st1,q1⟩:=hz_
 refine L2.thn (hk.thn I1 st1.gh (hS.step st1) hx (RK.step hr st1)) fun z s2 hz_=> ?_
 obtain⟨w,e,G2,H2,I2,r2,st2,q2,hr2⟩:=hz_
 exact gK .Eq hu pins s2 σ H2 G2 _ e v w u z Q E I2 st2.gh (q1.mono st2.sg) q2 r1 r2 hr2
end
section
variable {P:Program} {w:World} {K:PySem.W.Frag} {mg:Str->Option Value} {base:Heap} {ad:Ad} {k:Nat} {f:Addr} {name qual:Str} {params:Arguments} {scope:Scope} {dV kV doc pm cdv ct oc:Value} {an od:Option Addr}
  {osl:Array (Option Value)} {dn tn kn:Str} {m1 m2 m3:Stmt} {g1 g2 g3:FS} {p1 np dp p2 np' dp' kp cp rp:Pos} {fd:FuncData} {tab:List (Str×SK.Gl)} {fns:List (Nat×Fn)} {bs:List Str}
noncomputable def jC (dn tn kn:Str) (m1 m2 m3:Stmt) (p1 np dp p2 np' dp' kp cp rp:Pos):List Stmt:=
 [.Assign [.Name tn p1] (.Call (.Name dn np) [] [] dp) p2,m1,m2,m3, .Return (some (.Compare (.Call (.Name dn np') [] [] dp') [.Eq] [.Name kn kp] cp)) rp]
structure Mids (C:SK.Ctx) (m1 m2 m3:Stmt) (g1 g2 g3:FS):Prop where
 e1:pO 50 true C m1=some g1
 e2:pO 50 true C m2=some g2
 e3:pO 50 true C m3=some g3
 r1: ∀ d xs,g1 [.sh d, .ow xs, .no]= .nx [.sh d, .ow xs, .no]
 r2: ∀ d xs,g2 [.sh d, .ow xs, .no]= .nx [.sh d, .ow xs, .sh (.lst xs)]
 r3: ∀ d xs,xs.length<LIM->g3 [.sh d, .ow xs, .sh (.lst xs)]= .nx [.sh d, .ow (xs++[.str "?"]), .sh (.lst xs)]
theorem w5 (B:ExcK K ad) (TB:cU P w K mg base ad k tab) (FB:eA P w K mg base ad k fns) (had: ∀ p,ad.fnA (1000+p)=p)
  (lk:K.lookup f=some ⟨oc,od, .func (PySem.W.fnOf name qual params (jC dn tn kn m1 m2 m3 p1 np dp p2 np' dp' kp cp rp) scope dV kV doc pm an cdv ct),osl⟩) (hcd:PySem.W.codeIn K cdv qual=true)
  (hs:bS (aC scope) [dn] scope=true) (hN:aC scope=[dn,tn,kn]) (hdl:scope.names.lookup dn=some .local) (htl:scope.names.lookup tn=some .local) (hkl:scope.names.lookup kn=some .local)
  (M:Mids ⟨tab,fns,scope,aC scope,bs⟩ m1 m2 m3 g1 g2 g3):m9 P w K mg base ad k f (PySem.W.fnOf name qual params (jC dn tn kn m1 m2 m3 p1 np dp p2 np' dp' kp cp rp) scope dV kV doc pm an cdv ct) dn cV:=by
 intro A outer s G H a r Q E args hr e0 hb hfn hHa hfa hdeed hG hq
 have hx0: ∃ xs,r= .ow xs/\jS (.lst xs) (.lst xs)=true/\xs.length<LIM:=by
  cases r with
  | ow xs=>
   have hq':RK K ad G H (if jS (.lst xs) (.lst xs)&&decide (xs.length<LIM) then .ok (.bl (deq (.lst xs) (.lst xs))) else .bad) Q fun _ _=>False:=hq
   by_cases z:(jS (.lst xs) (.lst xs)&&decide (xs.length<LIM))=true
   ·rw [av] at z
    exact⟨xs,rfl,z.1,of_decide_eq_true z.2⟩
   ·rw [if_neg z] at hq'
    exact hq'.elim
  | ok d=>exact hq.elim
  | ex c=>exact hq.elim
  | bad=>exact hq.elim
 obtain⟨xs,rfl,hok,hlen⟩:=hx0
 have hq1:RK K ad G H (.ok (.bl (deq (.lst xs) (.lst xs)))) Q fun _ _=>False:=by
  have hq':RK K ad G H (if jS (.lst xs) (.lst xs)&&decide (xs.length<LIM) then .ok (.bl (deq (.lst xs) (.lst xs))) else .bad) Q fun _ _=>False:=hq
  rwa [if_pos (by rw [hok,decide_eq_true hlen];rfl)] at hq'
 obtain⟨S,nm⟩:=cM hs
 have KX:K.In s.heap:=e0.mod.kin.keeps fun b o e=>(e0.bs b o e).1
 have lim:s.heap.NoLimit:=e0.mod.nolimit.keeps fun b o e=>(e0.bs b o e).1
 have hkind: ∀ y∈[(dn,Value.ref a)],scope.names.lookup y.1=some .local\/(scope.names.lookup y.1=some .cell/\((cellsFrom (s.heap.objs.size+1) scope.names []).lookup y.1).isSome=true):=fun y hy=>by
  rw [List.mem_singleton.mp hy]
  exact .inl hdl
 refine codeAny_call_function hr.depth (KX _ _ lk) rfl S.co S.gen rfl (PySem.W.codeRec_of KX hcd) (hb _ _ _ _ ?_)
 refine wpAny_newFunctionEnv_cells S.kind hkind fun env he s1 y=> ?_
 subst he
 refine⟨lim.keeps y.toInCall.keep,codeAny_func ?_⟩
 let X:=lX (CXe P w) P w K mg base (aC scope) qual scope f cdv A outer s H E
 have I:Inv X [] (start (aC scope) [.ref a]) H s1:=iK (vs:=[.ref a]) (us:=[.ref a]) (ps:=[dn]) S hr.hd e0 rfl (.cons rfl .nil) y
 have hr2:Room k (A.deeper (envOfC qual scope s.heap.objs.size f cdv)):=hr.deeper _
 let C:SK.Ctx:=⟨tab,fns,scope,aC scope,bs⟩
 have O:StOk X ad C:=o7 B TB FB hs hr2
 have hD:DeedX X ad G k a (.ow xs) dn:=⟨by show(aC scope)[0]? =_;rw [hN];rfl,hdl,(nm dn (by rw [hN];exact .head _)).1,hfn,hHa,hfa,rfl,hdeed,hr2⟩
 have n1:X.N[1]? =some tn:=by show(aC scope)[1]? =_;rw [hN];rfl
 have n2:X.N[2]? =some kn:=by show(aC scope)[2]? =_;rw [hN];rfl
 have mk:=nm kn (by rw [hN];exact .tail _ (.tail _ (.head _)))
 have hk:ME X ad (.Name kn kp) (aB 2):=tW n2 (.inl hkl) mk.1 mk.2
 let Z:=Zt ad E true
 let D':Ends:={ nx:=fun _ H'=>Q .non H',rt:=Q }
 have kS:=(i8 (ad:=ad) (E₀:=E) 50).1
 have main:=dN (jN (pos:=p2) (pos':=p1) S.nd n1 (.inl htl) (w4 (np:=np) (dp:=dp) hD) rfl (.inr htl)) (dN (kS X C true _ g1 O (fun z=>nomatch z) M.e1) (dN (kS X C true _ g2 O (fun z=>nomatch z) M.e2) (dN (kS X C true _ g3 O (fun z=>nomatch z) M.e3) (nO (pB (pos:=rp) (aAh (np:=np') (dp:=dp') (kp:=kp) (cp:=cp) hD O.cx.un hk))))))
 refine wpAny_mono (main [] s1 _ H D' I ?_) (fun fl s' hs=> ?_) fun e s' hs=>hs
 ·-- what is asked at the entry
  have st0:start (aC scope) [V.ref a]=[some (.ref a),none,none]:=by rw [hN];rfl
  have S0:SS X ad G G H [.sh (.fn (1000+a)), .no, .no] [some (.ref a),none,none]:=iC (X:=X) (ds:=[.fn (1000+a)]) (vs:=[.ref a]) (n:=2) hG (aF.cons (by unfold Rep;rw [had]) aF.nil)
  rw [st0]
  refine⟨rfl,G,S0.st,fun p vs G1 H1 st n m e q=> ?_⟩
  have T:DefX X E:=⟨rfl,rfl,rfl,fun e s' h=>h⟩
  have Xa:XA X ad Z (fun _ c H'=>E (.ref (ad.cls c)) none H'):=⟨fun σ=>p8 T,fun z=>nomatch z⟩
  have S1:SS X ad G G1 H1 [.sh (.fn (1000+a)), .ow xs, .no] [some (.ref a),some (.ref p),none]:=S0.setNew (i:=1) st n ⟨p,vs,rfl,m,e,q⟩
  refine⟨G,G1,_,_,S1,Xa, ?_⟩
  rw [M.r1]
  intro σ2 G2 H2 S2
  refine⟨G,G2,_,_,S2,Xa, ?_⟩
  rw [M.r2]
  intro σ3 G3 H3 S3
  refine⟨G,G3,_,_,S3,Xa, ?_⟩
  rw [M.r3 _ _ hlen]
  intro σ4 G4 H4 S4
  obtain⟨v,h1,h2⟩:=S4.sl.sh (i:=0) rfl
  unfold Rep at h2
  rw [had] at h2
  subst h2
  refine⟨h1,G4,_,_,S4.st,S4.sl,Xa.1 _, ?_⟩
  show RK K ad G4 H4 (if jS (.lst xs) (.lst xs) then .ok (.bl (deq (.lst xs) (.lst xs))) else .bad) Q _
  rw [if_pos hok]
  exact(RK.step hq1 S4.st).impE fun _ _ z=>z.elim
 ·have fin: ∀ {σ':St} {H':Hp} {v:V} {u:Value},Inv X [] σ' H' s'->aP v u->Q v H'->CE outer P w H s Q u s':=
   fun {σ' H' v u} J rv q=>⟨v,H',J.os,J.bare,J.base,J.hok,rv,q⟩
  cases fl with
  | ret u=>
   obtain⟨v,σ',H',J,rv,q⟩:=hs
   exact fin J rv q
  | next=>
   obtain⟨σ',H',J,q⟩:=hs
   exact fin (v:=V.non) (u:=Value.none) J rfl q
  | brk=>
   obtain⟨_,_,_,q⟩:=hs
   exact az q
  | cont=>
   obtain⟨_,_,_,q⟩:=hs
   exact az q
structure StRd where
 dn:Str
 tn:Str
 kn:Str
 m1:Stmt
 m2:Stmt
 m3:Stmt
noncomputable def aFs:List CmpOp->Bool
 | [o]=>(match o with | .Eq=>true | _=>false)
 | _=>false
theorem aAi {l:List CmpOp} (h:aFs l=true):l=[.Eq]:=by
 unfold aFs at h
 split at h
 ·split at h
  ·rfl
  ·cases h
 ·cases h
noncomputable def aFt (st:Stmt):Option Expr:=match st with
 | .Return v _=>v
 | _=>none
theorem aAj {st:Stmt} {e:Expr} (h:aFt st=some e): ∃ p,st= .Return (some e) p:=by
 unfold aFt at h
 split at h
 ·cases h;exact⟨_,rfl⟩
 ·cases h
noncomputable def aM0 (e:Expr):Option (Str×Str):=match e with
 | .Compare a ops cs _=>if aFs ops then(nB a).bind fun d=>(one cs).bind fun c=>(bJ c).map fun(k,_)=>(d,k) else none
 | _=>none
theorem aFu {e:Expr} {d k:Str} (h:aM0 e=some (d,k)): ∃ np dp kp cp,e= .Compare (.Call (.Name d np) [] [] dp) [.Eq] [.Name k kp] cp:=by
 unfold aM0 at h
 split at h
 ·split at h
  ·rename_i ho
   cases aAi ho
   obtain⟨d',h1,h⟩:=zBd h
   obtain⟨c,h2,h⟩:=zBd h
   obtain⟨⟨k',p⟩,h3,h4⟩:=zMd h
   cases bU h2
   cases aM h3
   cases h4
   obtain⟨np,dp,rfl⟩:=jA h1
   exact⟨_,_,_,_,rfl⟩
  ·cases h
 ·cases h
noncomputable def aM1 {α:Type} (l:List α):Option (α×α×α×α×α):=match l with
 | [a,b,c,d,e]=>some (a,b,c,d,e)
 | _=>none
theorem aFv {α:Type} {l:List α} {a b c d e:α} (h:aM1 l=some (a,b,c,d,e)):l=[a,b,c,d,e]:=by
 unfold aM1 at h
 split at h
 ·cases h;rfl
 ·cases h
noncomputable def q9 (b:List Stmt):Option StRd:=(aM1 b).bind fun(s1,m1,m2,m3,s5)=>(aKz s1).bind fun(t,e)=>(bJ t).bind fun(tn,_)=>(nB e).bind fun dn=>(aFt s5).bind fun r=>(aM0 r).bind fun(dn',kn)=>if dn=dn' then some ⟨dn,tn,kn,m1,m2,m3⟩ else none
theorem w6 {b:List Stmt} {t:StRd} (h:q9 b=some t): ∃ p1 np dp p2 np' dp' kp cp rp,b=jC t.dn t.tn t.kn t.m1 t.m2 t.m3 p1 np dp p2 np' dp' kp cp rp:=by
 unfold q9 at h
 obtain⟨⟨s1,m1,m2,m3,s5⟩,h1,h⟩:=zBd h
 obtain⟨⟨tg,e⟩,h2,h⟩:=zBd h
 obtain⟨⟨tn,tp⟩,h3,h⟩:=zBd h
 obtain⟨dn,h4,h⟩:=zBd h
 obtain⟨r,h5,h⟩:=zBd h
 obtain⟨⟨dn',kn⟩,h6,h⟩:=zBd h
 simp only at h
 split at h
 ·rename_i he
  cases he
  cases h
  cases aFv h1
  obtain⟨p2,rfl⟩:=wU h2
  cases aM h3
  obtain⟨np,dp,rfl⟩:=jA h4
  obtain⟨rp,rfl⟩:=aAj h5
  obtain⟨np',dp',kp,cp,rfl⟩:=aFu h6
  exact⟨_,_,_,_,_,_,_,_,_,rfl⟩
 ·cases h
noncomputable def aM2 (t:StRd) (sc:Scope):Bool:=bS (aC sc) [t.dn] sc&&aC sc==[t.dn,t.tn,t.kn]&&sc.names.lookup t.dn==some .local&&sc.names.lookup t.tn==some .local&&sc.names.lookup t.kn==some .local
noncomputable def gS1:FS:=sIf (hF (rIs (fun d=>match d with | .lst _=>some true | .exc _=>none | .fn _=>none | _=>some false) (aT 1))) (dG (rK (.bl false))) bQ
noncomputable def gS2:FS:=g0 2 (aD aCn [aT 1])
noncomputable def gS3:FS:=lL 1 (rK (.str "?"))
theorem aFw {cs fs:List Addr} {C0 p:Addr}:(zN cs C0 fs).fnA (1000+p)=p:=by
 have e: ∀ p:Nat,(if 1000+p<1000 then fs.getD (1000+p) 0 else 1000+p - 1000)=p:=fun p=>by
  rw [if_neg (by omega)]
  exact Nat.add_sub_cancel_left 1000 p
 exact e p
theorem aAk {x0:Str} {st:Stmt} {t:StRd} (B:ExcK K ad) (TB:cU P w K mg base ad k tab) (FB:eA P w K mg base ad k fns) (had: ∀ p,ad.fnA (1000+p)=p) (Fu:Fun K x0 qual st f fd) (hb:q9 (defBody st)=some t) (hs:(aAf st).map (aM2 t)=some true)
  (h1:(aAf st).bind (fun sc=>pO 50 true ⟨tab,fns,sc,aC sc,bs⟩ t.m1)=some gS1) (h2:(aAf st).bind (fun sc=>pO 50 true ⟨tab,fns,sc,aC sc,bs⟩ t.m2)=some gS2) (h3:(aAf st).bind (fun sc=>pO 50 true ⟨tab,fns,sc,aC sc,bs⟩ t.m3)=some gS3):m9 P w K mg base ad (k+1) f fd t.dn cV:=by
 obtain⟨oc,od,kV,doc,pm,an,cdv,ct,osl,rfl,lk,hcd⟩:=Fu.ex
 cases st with
 | FunctionDef nm as b dl re tp sc ts bi pos=>
  obtain⟨p1,np,dp,p2,np',dp',kp,cp,rp,rfl⟩:=w6 (show q9 b=some t from hb)
  have hs':aM2 t sc=true:=Option.some.inj hs
  unfold aM2 at hs'
  simp only [av] at hs'
  obtain⟨⟨⟨⟨s1,s2⟩,s3⟩,s4⟩,s5⟩:=hs'
  exact w5 (g1:=gS1) (g2:=gS2) (g3:=gS3) B (TB.mono (Nat.le_succ k)) (FB.mono (Nat.le_succ k)) had lk hcd s1 (show aC sc=_ by simpa using s2) (bL s3) (bL s4) (bL s5) ⟨h1,h2,h3,fun _ _=>rfl,fun _ _=>rfl,fun d xs h=>if_pos h⟩
 | _=>cases hs
end
end SK
namespace SK.k77
open SK
noncomputable def eZ:Fn:=fnOf 1 (dG (fI (rIs (aH4) (aB 0)) (hF (rIs (aC0) (aB 0)))))
noncomputable def aU:Fn:=fnOf 2 (dG (fI (aD eZ [aB 0]) (jU .LtE .Lt (rK (.int 0)) (aB 0) (aB 1))))
noncomputable def aR:Fn:=fnOf 2 (dG (aD aF2 [bO 0 [1] (aT 0) none (aD aU [aB 0,aB 1])]))
noncomputable def dY:Fn:=fnOf 1 (dG (aD aU [aB 0,a9 .Add (rK (.int 4)) (rK (.int 1))]))
noncomputable def iD:Fn:=fnOf 3 (dG (fI (rIs (fU) (aB 0)) (fI (bW .Eq (aD nI [aT 0]) (aB 1)) (aD aR [aB 0,aB 2]))))
noncomputable def aL:Fn:=fnOf 1 (dG (a9 .LShift (rK (.int 1)) (aB 0)))
noncomputable def eB:Fn:=fnOf 1 (aV (sIf (rOr (hF (rIs (fU) (aB 0))) (rOr (bW .NotEq (aD nI [aT 0]) (rK (.int 2))) (hF (aD dY [rIx (aT 0) (rK (.int 0))]))))
 (dG (rK (.bl false)))
 (bQ))
 (dG (aD iD [rIx (aT 0) (rK (.int 1)),aD aL [rIx (aT 0) (rK (.int 0))],rK (.int 2)])))
noncomputable def bI:Fn:=fnOf 1 (sIf (hF (aD eB [aB 0]))
 (fD 1)
 (bQ))
noncomputable def bY:Fn:=fnOf 1 (sIf (hF (aD dY [aB 0]))
 (fD 2)
 (bQ))
noncomputable def rB:Fn:=fnOf 1 (aV (kN (aD bI [aB 0]))
 (dG (bO 2 [] (rR (rIx (aT 0) (rK (.int 1)))) (some (bW .Eq (aB 1) (rK (.int 1)))) (aB 0))))
noncomputable def eP:Fn:=fnOf 3 (aV (kN (aD bY [aB 0]))
 (aV (g0 2 (aD aL [aB 0]))
 (aV (sIf (rOr (hF (rIs (n9) (aB 1))) (hF (aD aR [aB 1,aB 2])))
 (fD 2)
 (bQ))
 (dG (jH [aB 0,aD mC [bO 0 [1] (bN (aB 2)) none (rIf (bW .In (aB 0) (aB 1)) (rK (.int 1)) (rK (.int 0)))]])))))
noncomputable def gB:Fn:=fnOf 1 (dG (rOr (bW .Is (aB 0) (rK .non)) (aD aU [aB 0,rK (.int 2)])))
noncomputable def gC:Fn:=fnOf 2 (aV (sIf (rOr (hF (aD dY [aB 0])) (rOr (hF (rIs (fU) (aB 1))) (bW .NotEq (aD nI [aT 1]) (aB 0))))
 (dG (rK (.bl false)))
 (bQ))
 (dG (aD aF2 [bO 0 [] (aT 1) none (aD gB [aB 0])])))
noncomputable def cW:Fn:=fnOf 2 (sIf (hF (aD gC [aB 0,aB 1]))
 (fD 3)
 (bQ))
noncomputable def cF:Fn:=fnOf 6 (aV (sIf (hF (rIs (fU) (aB 0)))
 (fD 3)
 (bQ))
 (aV (kN (aD cW [aD nI [aT 0],aB 0]))
 (aV (iP 1 (eT [rK (.int 0)]))
 (aV (tP [2,3] false (rR (aB 0))
 (aV (aKl [1] (g0 4 (rIf (bW .Eq (aB 3) (rK (.int 1))) (eT []) (aB 1))))
  (aV (g0 5 (rIf (bW .Eq (aB 3) (rK (.int 0))) (eT []) (bO 0 [2] (aT 1) none (a9 .Add (aB 0) (a9 .LShift (rK (.int 1)) (aB 1))))))
  (iP 1 (a9 .Add (aB 4) (aB 5))))))
 (dG (tJ 1))))))
noncomputable def dZ:Fn:=fnOf 4 (aV (kN (aD bY [aB 0]))
 (aV (sIf (hF (rIs (orP n9 fU) (aB 1)))
 (fD 3)
 (bQ))
 (aV (iP 2 (eT []))
 (aV (tP [3] true (aB 1)
 (aV (kN (aD cW [aB 0,aB 3]))
  (aHx 2 (aD cF [aB 3]))))
 (aKl [2] (dG (aD eP [aB 0,aB 2])))))))
noncomputable def eC:Fn:=fnOf 5 (aV (g0 1 (eT [jH []]))
 (aV (tP [2] true (bN (aB 0))
 (aV (iP 3 (eT []))
  (aV (tP [4] true (aB 1)
  (aHx 3 (bO 0 [4] (rK (.tup [.int 0, .int 1, .non])) none (a9 .Add (aB 1) (jH [aB 0])))))
  (aKl [3] (g0 1 (aB 3))))))
 (dG (aB 1))))
noncomputable def gE:Fn:=fnOf 1 (dG (bO 2 [0] (rR (aB 0)) (some (bW .IsNot (aB 1) (rK .non))) (a9 .Add (a9 .Add (aHn (aT 2) none (some (aB 0))) (jH [rK .non])) (aHn (aT 2) (some (a9 .Add (aB 0) (rK (.int 1)))) none))))
noncomputable def cS:Fn:=fnOf 3 (aV (kN (aD bI [aB 0]))
 (aV (aCq 1)
 (aV (tP [2] true (aD eC [rIx (aT 0) (rK (.int 0))])
 (sIf (aD aF2 [bO 0 [0] (aD cF [aB 2]) none (bW .Eq (rIx (rIx (aT 1) (rK (.int 1))) (aB 0)) (rK (.int 1)))])
  (aAy 1 (aB 2) (rK (.bl true)))
  (bQ)))
 (dG (bO 0 [1] (iO 1) (some (hF (aD aKk [bO 0 [1] (aD gE [aB 0]) none (aHu .In (aB 0) 1)]))) (aB 0))))))
noncomputable def cY:Fn:=fnOf 5 (aV (g0 1 (aD cS [aB 0]))
 (aV (iP 2 (a9 .Mult (eT [rK (.int 0)]) (aD nI [rIx (aT 0) (rK (.int 1))])))
 (aV (tP [3] true (aB 1)
 (tP [4] true (aD cF [aB 3])
  (xX 2 (aB 4) (rK (.int 1)))))
 (dG (bO 0 [2] (aT 1) (some (aD aKk [bO 0 [1] (aD cF [aB 0]) none (bW .Eq (rIx (aT 1) (aB 0)) (rK (.int 1)))])) (aB 0))))))
noncomputable def cZ:Fn:=fnOf 5 (aV (iP 2 (eT []))
 (aV (tP [3] true (bN (aD aL [aB 0]))
 (aV (g0 4 (bO 0 [3] (aT 1) (some (bW .Eq (a9 .BitAnd (aB 0) (aB 1)) (aB 0))) (aB 0)))
  (sIf (bW .Eq (a9 .Mod (aD nI [aT 4]) (rK (.int 2))) (rK (.int 1)))
  (lL 2 (aB 3))
  (bQ))))
 (dG (tJ 2))))
noncomputable def bM:Fn:=fnOf 2 (aV (g0 1 (aD rB [aB 0]))
 (dG (aD cZ [rIx (aT 0) (rK (.int 0)),aB 1])))
noncomputable def cG:Fn:=fnOf 2 (aV (kN (aD bY [aB 0]))
 (aV (sIf (rOr (hF (rIs (n9) (aB 1))) (hF (aD aR [aB 1,aD aL [aB 0]])))
 (fD 2)
 (bQ))
 (dG (aD eP [aB 0,aD cZ [aB 0,aB 1]]))))
noncomputable def e9:Fn:=fnOf 1 (aV (sIf (rOr (hF (rIs (aH5) (aB 0))) (hF (jU .LtE .LtE (rK (.int 1)) (aD nI [aT 0]) (rK (.int 4)))))
 (dG (rK (.bl false)))
 (bQ))
 (dG (aD aF2 [bO 0 [] (aT 0) none (jU .LtE .LtE (rK (.str "a")) (aB 0) (rK (.str "z")))])))
noncomputable def cH:Fn:=fnOf 1 (sIf (hF (aD e9 [aB 0]))
 (fD 4)
 (bQ))
noncomputable def dI:Fn:=fnOf 2 (aV (sIf (bW .Lt (aB 1) (aD nI [aT 0]))
 (dG (rIx (aT 0) (aB 1)))
 (bQ))
 (aV (sIf (bW .Eq (aB 0) (eT []))
 (dG (rK (.int 0)))
 (bQ))
 (dG (a9 .Add (a9 .Mult (rIx (aT 0) (a9 .Mod (aB 1) (aD nI [aT 0]))) (rK (.int 31))) (aB 1)))))
noncomputable def aH:Fn:=fnOf 4 (aV (g0 3 (a9 .Mod (a9 .Mult (a9 .Add (aD dI [aB 0,aB 1]) (a9 .Mult (rK (.int 6151)) (a9 .Add (aB 1) (rK (.int 1))))) (rK (.int 40692))) (rK (.int 2147483399))))
 (dG (a9 .Mod (a9 .Mod (a9 .Add (a9 .Mult (aB 3) (aB 3)) (a9 .FloorDiv (aB 3) (rK (.int 31)))) (rK (.int 2147483629))) (aB 2))))
noncomputable def aK:Fn:=fnOf 2 (dG (aD mC [bO 0 [1] (bN (aB 0)) none (a9 .Mod (a9 .FloorDiv (aB 1) (rIx (eT [rK (.int 1),rK (.int 2),rK (.int 4),rK (.int 8)]) (aB 0))) (rK (.int 2)))]))
noncomputable def dM:Fn:=fnOf 2 (dG (a9 .Mod (aD xE [bO 2 [] (aF1 (aD aK [rK (.int 4),aB 0]) (aD aK [rK (.int 4),aB 1])) none (a9 .Mult (aB 0) (aB 1))]) (rK (.int 2))))
noncomputable def bZ:Fn:=fnOf 9 (aV (g0 3 (rIx (eT [rK (.int 1),rK (.int 2),rK (.int 4),rK (.int 8),rK (.int 16)]) (aB 2)))
 (aV (g0 4 (aD aH [aB 0,aB 1,rK (.int 6)]))
 (aV (iP 5 (bO 0 [1,0] (bN (aB 3)) none (aD aH [aB 2,a9 .Add (a9 .Add (aB 1) (rK (.int 1))) (aB 0),rK (.int 2)])))
 (aV (sIf (fI (bW .Eq (aB 4) (rK (.int 0))) (bW .Gt (aB 2) (rK (.int 0))))
 (aV (g0 6 (aD aH [aB 0,a9 .Add (aB 1) (rK (.int 20)),aB 3]))
  (iP 5 (bO 0 [6] (bN (aB 3)) none (aD dM [aB 1,aB 0]))))
 (sIf (bW .Eq (aB 4) (rK (.int 1)))
  (iP 5 (bO 0 [1,2,0] (bN (aB 3)) none (aD aHp [bW .GtE (aD xE [aD aK [aB 2,aB 0]]) (a9 .Add (rK (.int 1)) (aD aH [aB 3,a9 .Add (aB 1) (rK (.int 21)),rK (.int 3)]))])))
  (sIf (fI (bW .Eq (aB 4) (rK (.int 2))) (bW .Gt (aB 2) (rK (.int 0))))
   (aV (g0 7 (aD aH [aB 0,a9 .Add (aB 1) (rK (.int 22)),aB 2]))
    (iP 5 (bO 0 [7,5] (bN (aB 3)) none (rIx (aT 2) (a9 .Sub (aB 0) (a9 .Mult (a9 .Mod (a9 .FloorDiv (aB 0) (rIx (eT [rK (.int 1),rK (.int 2),rK (.int 4),rK (.int 8)]) (aB 1))) (rK (.int 2))) (rIx (eT [rK (.int 1),rK (.int 2),rK (.int 4),rK (.int 8)]) (aB 1))))))))
   (bQ))))
 (aV (sIf (fI (bW .Lt (aB 4) (rK (.int 3))) (bW .Eq (aD aH [aB 0,a9 .Add (aB 1) (rK (.int 23)),rK (.int 3)]) (rK (.int 0))))
 (aV (g0 8 (aD aH [aB 0,a9 .Add (aB 1) (rK (.int 24)),aB 3]))
  (aAy 5 (aB 8) (a9 .Sub (rK (.int 1)) (rIx (aT 5) (aB 8)))))
 (bQ))
 (dG (jH [aB 2,aD mC [aT 5]])))))))
noncomputable def bX:Fn:=fnOf 2 (dG (rIx (eT [rK (.int 0),rK (.int 1),rK (.int 2),rK (.int 2),rK (.int 2),rK (.int 3),rK (.int 3)]) (aD aH [aB 0,aB 1,rK (.int 7)])))
noncomputable def cT:FM:=xI 354 3 (jF (mIf (bW .Is (aB 2) (rK .non))
 (jF (aEy 354 (aB 1))
  (fO))
 (jF (aEx 354 (aB 1) (aB 2))
  (fO)))
 (fO))
noncomputable def aAl:FM:=xI 354 4 (jF (aMm 354 true (jH [aB 1,aB 2,xZ 354 0 (aB 2),aB 3]))
 (jF (wH 354)
 (jF (zR 354 cT [aB 2,aB 3])
 (fO))))
noncomputable def jD:FM:=xI 354 4 (jF (wF (aD bI [aB 2]))
 (jF (wF (aD cH [aB 1]))
 (jF (aMk 2 (aF4 false 354 0 (aB 1)))
 (jF (zR 354 aAl [rK (.str "put"),aB 1,aB 2])
 (jF (aBo (aB 3))
 (fO))))))
noncomputable def dF:FM:=xI 354 1 (jF (aBo (aCv 354 0))
 (fO))
noncomputable def cQ:FM:=xI 354 2 (jF (wF (aD cH [aB 1]))
 (jF (mIf (aF4 true 354 0 (aB 1))
 (jF (wG 4)
  (fO))
 (fO))
 (jF (aBo (tQ 354 0 (aB 1)))
 (fO))))
noncomputable def kG:FM:=xI 354 3 (jF (aMk 1 (jK 354 0 cQ [aB 1]))
 (jF (aBo (bO 0 [1,0,2] (jK 354 0 dF []) (some (fI (bW .NotEq (aB 0) (aB 1)) (bW .Eq (tQ 354 2 (aB 0)) (aB 3)))) (aB 0)))
 (fO)))
noncomputable def gF:FM:=xI 354 1 (jF (aBo (jH [aD nI [aF3 354 0 true],aD nI [aF3 354 0 false]]))
 (fO))
noncomputable def aAm:FS:=aV (wT 4 5 354 (aD bX [aB 0,rK (.int 0)]))
 (aV (g0 6 (aD bZ [aB 0,rK (.int 10),aB 4]))
 (aV (aF9 354 5 jD [rK (.str "a"),aB 6])
 (aV (aF9 354 5 jD [rK (.str "b"),aB 6])
 (aV (iP 1 (eT [eJ cV [6] (aD cS [aB 0])]))
 (aV (lL 1 (eJ cV [6] (aD cY [aB 0])))
 (aV (lL 1 (eJ cV [4] (aD cF [a9 .Mult (jH [rK .non]) (aB 0)])))
 (aV (lL 1 (eJ cV [6] (aD bM [aB 0])))
 (aV (lL 1 (eJ cV [5] (jK 354 0 dF [])))
 (aV (lL 1 (eJ cV [5] (jK 354 0 kG [rK (.str "a")])))
 (aV (jI [2,3] (jH [aD cS [aB 6],aD bM [aB 6]]))
 (aV (sIf (rOr (bW .NotEq (aD dZ [aB 4,aB 2]) (aB 6)) (bW .NotEq (aD cG [aB 4,aB 3]) (aB 6)))
 (aV (dG (rK (.bl false)))
  (bQ))
 (bQ))
 (aV (dG (fI (bW .Eq (aT 1) (a9 .Mult (eT [rK (.bl true)]) (rK (.int 6)))) (fI (bW .Eq (aB 2) (aD cS [aB 6])) (fI (bW .Eq (aB 3) (aD bM [aB 6])) (bW .Eq (jK 354 5 gF []) (jH [rK (.int 2),rK (.int 0)]))))))
 (bQ)))))))))))))
open PySem
noncomputable abbrev Sc (ns:List Int):D:= .lst (ns.map D.int)
theorem aAn (ns:List Int):plain (Sc ns)=true:=by
 show a8 (ns.map D.int)=true
 rw [sH];intro x m;obtain⟨i,_,rfl⟩:=aq.1 m;rfl
noncomputable def sI (ns:List Int) (k:Nat):Int:=if k<ns.length then ns.getD k 0 else if ns=[] then 0 else ns.getD (k % ns.length) 0 * 31+k
theorem aFx (ns:List Int) (k:Nat):dI [Sc ns, .int k]= .ok (.int (sI ns k)):=by
 have h0:nI [Sc ns]= .ok (.int ns.length):=by simp [nI,items]
 by_cases h:k<ns.length
 ·have e:(ns.map D.int)[k]? =some (D.int (sI ns k)):=by simp [sI,h]
  refine cP (wW ((sG ?_).trans (cO ((q8 rfl rfl).trans (gS e)))))
  refine(gR rfl ((kB rfl).trans h0)).trans ?_
  simp [g9,h]
 ·refine cP ((cN ((lJ ((gR rfl ((kB rfl).trans h0)).trans ?_)).trans rfl)).trans ?_)
  ·simp [g9];omega
  have he:bW .Eq (aB 0) (eT []) [.sh (Sc ns), .sh (.int k)]= .ok (.bl (decide (ns=[]))):=by
   show g9 .Eq (Sc ns) (.lst [])=_
   rw [o8 (aFr (aAn ns) rfl (by decide))]
   cases ns<;>simp [deq,rP]
  by_cases h1:ns=[]
  ·subst h1
   exact wW ((sG (he.trans rfl)).trans rfl)
  ·refine(cN ((lJ (he.trans (by simp [h1]))).trans rfl)).trans (cO ?_)
   have l:0<ns.length:=List.length_pos_iff.2 h1
   have e:(ns.map D.int)[k % ns.length]? =some (D.int (ns.getD (k % ns.length) 0)):=by simp [Nat.mod_lt _ l]
   have e2:kM .Mod (.int k) (.int ns.length)= .ok (.int ((k % ns.length:Nat):Int)):=by
    have:(0:Int)<ns.length:=by omega
    simp [kM,eF,this];omega
   refine(aW ((aW ((q8 rfl ((aW rfl ((kB rfl).trans h0)).trans e2)).trans (gS e)) rfl).trans (aBz rfl)) rfl).trans ?_
   simp [kM,eF,sI,h,h1]
noncomputable def fG (ns:List Int) (k:Nat):Int:=(sI ns k+6151 * (k+1)) * 40692 % 2147483399
noncomputable def o9 (ns:List Int) (k:Nat) (m:Int):Int:=(fG ns k * fG ns k+fG ns k / 31) % 2147483629 % m
theorem w8 (ns:List Int) (k:Nat) {m:Int} (hm:0<m):aH [Sc ns, .int k, .int m]= .ok (.int (o9 ns k m)):=by
 have h1:a9 .Mod (a9 .Mult (a9 .Add (aD dI [aB 0,aB 1]) (a9 .Mult (rK (.int 6151)) (a9 .Add (aB 1) (rK (.int 1))))) (rK (.int 40692))) (rK (.int 2147483399)) [.sh (Sc ns), .sh (.int k), .sh (.int m), .no]= .ok (.int (fG ns k)):=by
  refine(aW ((aW ((aW ((kC rfl rfl).trans (aFx ns k)) (y:= .int (6151 * (k+1))) ?_).trans rfl) rfl).trans (?_:_=R.ok (.int ((sI ns k+6151 * (k+1)) * 40692)))) rfl).trans ?_
  ·refine(aW rfl rfl).trans ?_;simp [kM,eF,sml]
  ·simp [kM,eF,sml]
  ·simp [kM,eF,fG]
 refine cP ((cN (fP h1)).trans (cO ?_))
 unfold o9
 have hs:sml (fG ns k)=true:=by
  have:0<=fG ns k/\fG ns k<2147483399:=by unfold fG;omega
  simp [sml];omega
 generalize fG ns k=x at *
 have h2:a9 .FloorDiv (aB 3) (rK (.int 31)) [.sh (Sc ns), .sh (.int k), .sh (.int m), .sh (.int (x))]= .ok (.int (x / 31)):=by
  refine(aW rfl rfl).trans ?_;simp [kM,eF]
 have h3:a9 .Mult (aB 3) (aB 3) [.sh (Sc ns), .sh (.int k), .sh (.int m), .sh (.int x)]= .ok (.int (x * x)):=by
  refine(aW rfl rfl).trans ?_;simp [kM,eF,hs]
 refine(aW ((aW ((aW h3 h2).trans rfl) rfl).trans (?_:_=R.ok (.int ((x * x+x / 31) % 2147483629)))) rfl).trans ?_
 ·simp [kM,eF]
 ·exact lK hm
theorem jE (ns:List Int) (k:Nat) {m:Int} (hm:0<m):0<=o9 ns k m/\o9 ns k m<m:=⟨Int.emod_nonneg _ (by omega),Int.emod_lt_of_pos _ hm⟩
def bit (d:D):Prop:=d= .int 0\/d= .int 1
theorem w9 (i:Int):bit (.int (i % 2)):=by
 unfold bit
 rcases(show i % 2=0\/i % 2=1 by omega) with h | h<;>simp [h]
theorem ix4 {a:F} {ρ:Rho} {j:Nat} (h:a ρ= .ok (.int j)) (l:j<4):rIx (eT [rK (.int 1),rK (.int 2),rK (.int 4),rK (.int 8)]) a ρ= .ok (.int ((2 ^ j:Nat):Int)):=by
 refine(wX rfl h).trans (gS ?_)
 rcases(show j=0\/j=1\/j=2\/j=3 by omega) with rfl | rfl | rfl | rfl<;>rfl
theorem ix5 {a:F} {ρ:Rho} {j:Nat} (h:a ρ= .ok (.int j)) (l:j<=4):rIx (eT [rK (.int 1),rK (.int 2),rK (.int 4),rK (.int 8),rK (.int 16)]) a ρ= .ok (.int ((2 ^ j:Nat):Int)):=by
 refine(wX rfl h).trans (gS ?_)
 rcases(show j=0\/j=1\/j=2\/j=3\/j=4 by omega) with rfl | rfl | rfl | rfl | rfl<;>rfl
theorem xA {m:Nat} (h:m<=4):1<=2 ^ m/\2 ^ m<=16:=by
 rcases(show m=0\/m=1\/m=2\/m=3\/m=4 by omega) with rfl | rfl | rfl | rfl | rfl<;>decide
theorem gT {m:Nat} (hm:m<=4) (k:Int): ∃ xs,aK [.int m, .int k]= .ok (.tup xs)/\xs.length=m/\ ∀ x∈xs,bit x:=by
 obtain⟨xs,e,l,b⟩:=dX (n:=0) (cs:=[1]) (it:=bN (aB 0)) (e:=a9 .Mod (a9 .FloorDiv (aB 1) (rIx (eT [rK (.int 1),rK (.int 2),rK (.int 4),rK (.int 8)]) (aB 0))) (rK (.int 2))) (ρ:=[.sh (.int m), .sh (.int k)]) (ds:=nY m) (P:=bit)
  (.inl (eO rfl (by omega))) fun d h=>by
   obtain⟨j,hj,rfl⟩:=gA h
   have hp:=xA (m:=j) (by omega)
   refine⟨[.sh (.int j)],_,rfl,(aW ((aW rfl (ix4 (a:=aB 0) (j:=j) rfl (by omega))).trans (wY ?_ ?_)) rfl).trans (lK (by decide)),w9 _⟩<;>omega
 exact⟨xs,cP (cO ((nF e).trans rfl)),l.trans dJ,b⟩
theorem xB: ∀ {xs:List D},(∀ x∈xs, ∃ i,x=D.int i)-> ∃ is:List Int,xs=is.map D.int
 | [],_=>⟨[],rfl⟩
 | x::r,h=>by
  obtain⟨i,rfl⟩:=h x (.head _)
  obtain⟨is,rfl⟩:=xB (xs:=r) fun y m=>h y (.tail _ m)
  exact⟨i::is,rfl⟩
theorem aFy {d:D} (h:bit d): ∃ i,d= .int i:=by rcases h with rfl | rfl<;>exact⟨_,rfl⟩
theorem aAo (is:List Int):xE [.lst (is.map D.int)]= .ok (.int is.sum):=by simp [xE,items,nE]
theorem aFz (is:List Int):xE [.tup (is.map D.int)]= .ok (.int is.sum):=by simp [xE,items,nE]
theorem aKf (a b:Int): ∃ r,dM [.int a, .int b]= .ok r/\bit r:=by
 obtain⟨xs,e1,l1,b1⟩:=gT (m:=4) (by decide) a
 obtain⟨ys,e2,l2,b2⟩:=gT (m:=4) (by decide) b
 have hz:aF1 (aD aK [rK (.int 4),aB 0]) (aD aK [rK (.int 4),aB 1]) [.sh (.int a), .sh (.int b)]= .ok (.lst ((xs.zip ys).map fun p=>D.tup [p.1,p.2])):=by
  have h1:aD aK [rK (.int 4),aB 0] [.sh (.int a), .sh (.int b)]= .ok (.tup xs):=(kC rfl rfl).trans e1
  have h2:aD aK [rK (.int 4),aB 1] [.sh (.int a), .sh (.int b)]= .ok (.tup ys):=(kC rfl rfl).trans e2
  simp [aF1,h1,h2,R.bind]
 obtain⟨zs,e,l,q⟩:=dX (n:=2) (cs:=[]) (e:=a9 .Mult (aB 0) (aB 1)) (P:=fun x=> ∃ i,x=D.int i) (.inl hz) fun d h=>by
  obtain⟨⟨x,y⟩,hm,rfl⟩:=aq.1 h
  obtain⟨mx,my⟩:=List.of_mem_zip hm
  have hx:=b1 x mx;have hy:=b2 y my
  refine⟨[.sh x, .sh y], ?_⟩
  rcases hx with rfl | rfl<;>rcases hy with rfl | rfl<;>exact⟨_,rfl,rfl,_,rfl⟩
 obtain⟨is,rfl⟩:=xB q
 exact⟨_,cP (cO ((aW ((nF e).trans (aAo is)) rfl).trans (lK (by decide)))),w9 _⟩
theorem eE (ns:List Int) (k:Nat) {m:Nat} (hm:0<m): ∃ p:Nat,aH [Sc ns, .int k, .int m]= .ok (.int p)/\p<m:=by
 have h:(0:Int)<m:=by omega
 have r:=jE ns k h
 refine⟨(o9 ns k m).toNat,(w8 ns k h).trans ?_,by omega⟩
 rw [Int.toNat_of_nonneg r.1]
theorem aKg {p:Nat} (h:p<2):bit (.int p):=by
 rcases(show p=0\/p=1 by omega) with rfl | rfl
 ·exact .inl rfl
 ·exact .inr rfl
theorem aB0 {ws:List D} (h: ∀ w∈ws,bit w) {p:Nat} (hp:p<ws.length): ∃ w,dIx (.lst ws) (.int p)= .ok w/\bit w:=
 ⟨ws[p],gS (bd hp),h _ (List.getElem_mem hp)⟩
theorem xC (ns:List Int) (at':Nat) {m:Nat} (hm:m<=4): ∃ ws,bZ [Sc ns, .int at', .int m]= .ok (.tup [.int m, .tup ws])/\ws.length=2 ^ m/\ ∀ w∈ws,bit w:=by
 have hp:=xA hm
 obtain⟨way,hw,lw⟩:=eE ns at' (m:=6) (by decide)
 -- the drawn worths
 obtain⟨ws0,e0,l0,b0⟩:=dX (n:=0) (cs:=[1,0]) (it:=bN (aB 3)) (e:=aD aH [aB 2,a9 .Add (a9 .Add (aB 1) (rK (.int 1))) (aB 0),rK (.int 2)]) (P:=bit) (ds:=nY (2 ^ m))
  (ρ:=[.sh (Sc ns), .sh (.int at'), .sh (.int m), .sh (.int (2 ^ m:Nat)), .sh (.int way), .no, .no, .no, .no]) (.inl (eO rfl (by omega))) fun d h=>by
   obtain⟨j,hj,rfl⟩:=gA h
   obtain⟨p,hp,lp⟩:=eE ns (at'+1+j) (m:=2) (by decide)
   exact⟨[.sh (.int j)],_,rfl,(f9 (x:=Sc ns) (y:= .int ((at'+1+j:Nat):Int)) (z:= .int 2) rfl rfl rfl).trans hp,aKg lp⟩
 rw [dJ] at l0
 -- the ways
 have h4: ∃ ws a b,(sIf (fI (bW .Eq (aB 4) (rK (.int 0))) (bW .Gt (aB 2) (rK (.int 0))))
   (aV (g0 6 (aD aH [aB 0,a9 .Add (aB 1) (rK (.int 20)),aB 3]))
    (iP 5 (bO 0 [6] (bN (aB 3)) none (aD dM [aB 1,aB 0]))))
   (sIf (bW .Eq (aB 4) (rK (.int 1)))
    (iP 5 (bO 0 [1,2,0] (bN (aB 3)) none (aD aHp [bW .GtE (aD xE [aD aK [aB 2,aB 0]]) (a9 .Add (rK (.int 1)) (aD aH [aB 3,a9 .Add (aB 1) (rK (.int 21)),rK (.int 3)]))])))
    (sIf (fI (bW .Eq (aB 4) (rK (.int 2))) (bW .Gt (aB 2) (rK (.int 0))))
     (aV (g0 7 (aD aH [aB 0,a9 .Add (aB 1) (rK (.int 22)),aB 2]))
      (iP 5 (bO 0 [7,5] (bN (aB 3)) none (rIx (aT 2) (a9 .Sub (aB 0) (a9 .Mult (a9 .Mod (a9 .FloorDiv (aB 0) (rIx (eT [rK (.int 1),rK (.int 2),rK (.int 4),rK (.int 8)]) (aB 1))) (rK (.int 2))) (rIx (eT [rK (.int 1),rK (.int 2),rK (.int 4),rK (.int 8)]) (aB 1))))))))
     (bQ)))) [.sh (Sc ns), .sh (.int at'), .sh (.int m), .sh (.int (2 ^ m:Nat)), .sh (.int way), .ow ws0, .no, .no, .no]
   = .nx [.sh (Sc ns), .sh (.int at'), .sh (.int m), .sh (.int (2 ^ m:Nat)), .sh (.int way), .ow ws,a,b, .no]/\ws.length=2 ^ m/\ ∀ w∈ws,bit w:=by
  have hgt: ∀ ρ:Rho,ρ[2]? =some (.sh (.int m))->bW .Gt (aB 2) (rK (.int 0)) ρ= .ok (.bl (decide (0<m))):=fun ρ h=>by
   refine(gR (x:= .int m) (by simp [aB,h]) rfl).trans ?_
   simp [g9]
  have hway: ∀ (c:Nat) (ρ:Rho),ρ[4]? =some (.sh (.int way))->bW .Eq (aB 4) (rK (.int c)) ρ= .ok (.bl (decide (way=c))):=fun c ρ h=>by
   refine(gR (x:= .int way) (by simp [aB,h]) rfl).trans ?_
   rw [o8 rfl]
   show R.ok (.bl ((way:Int)==(c:Int)))=_
   congr 2;rw [Bool.eq_iff_iff];simp;omega
  have hand: ∀ c:Nat,fI (bW .Eq (aB 4) (rK (.int c))) (bW .Gt (aB 2) (rK (.int 0))) [.sh (Sc ns), .sh (.int at'), .sh (.int m), .sh (.int (2 ^ m:Nat)), .sh (.int way), .ow ws0, .no, .no, .no]= .ok (.bl (decide (way=c/\0<m))):=fun c=>by
   by_cases h:way=c
   ·refine(aBx ((hway c _ rfl).trans (by simp [h]))).trans ((hgt _ rfl).trans (by simp [h]))
   ·refine(aBy ((hway c _ rfl).trans (by simp [h]))).trans (by simp [h])
  by_cases w0:way=0/\0<m
  ·obtain⟨mask,hk,lk⟩:=eE ns (at'+20) (m:=2 ^ m) (by omega)
   obtain⟨ws,e,l,b⟩:=dX (n:=0) (cs:=[6]) (it:=bN (aB 3)) (e:=aD dM [aB 1,aB 0]) (P:=bit) (ds:=nY (2 ^ m))
    (ρ:=[.sh (Sc ns), .sh (.int at'), .sh (.int m), .sh (.int (2 ^ m:Nat)), .sh (.int way), .ow ws0, .sh (.int mask), .no, .no]) (.inl (eO rfl (by omega))) fun d h=>by
     obtain⟨j,hj,rfl⟩:=gA h
     obtain⟨r,hr,br⟩:=aKf mask j
     exact⟨[.sh (.int j)],_,rfl,(kC rfl rfl).trans hr,br⟩
   refine⟨ws, .sh (.int mask), .no,(sG ((hand 0).trans (by simp [w0]))).trans ((cN (fP ((f9 rfl rfl rfl).trans hk))).trans (lI e)),l.trans dJ,b⟩
  by_cases w1:way=1
  ·obtain⟨q,hq,lq⟩:=eE ns (at'+21) (m:=3) (by omega)
   obtain⟨ws,e,l,b⟩:=dX (n:=0) (cs:=[1,2,0]) (it:=bN (aB 3)) (e:=aD aHp [bW .GtE (aD xE [aD aK [aB 2,aB 0]]) (a9 .Add (rK (.int 1)) (aD aH [aB 3,a9 .Add (aB 1) (rK (.int 21)),rK (.int 3)]))]) (P:=bit) (ds:=nY (2 ^ m))
    (ρ:=[.sh (Sc ns), .sh (.int at'), .sh (.int m), .sh (.int (2 ^ m:Nat)), .sh (.int way), .ow ws0, .no, .no, .no]) (.inl (eO rfl (by omega))) fun d h=>by
     obtain⟨j,hj,rfl⟩:=gA h
     obtain⟨xs,hs,ls,bs⟩:=gT hm j
     obtain⟨is,rfl⟩:=xB fun x m=>aFy (bs x m)
     refine⟨[.sh (.int j)],_,rfl,(kB ((gR ((kB ((kC rfl rfl).trans hs)).trans (aFz is)) ((aW rfl ((f9 rfl rfl rfl).trans hq)).trans rfl)).trans rfl)).trans rfl, ?_⟩
     unfold b2i;split
     ·exact .inr rfl
     ·exact .inl rfl
   refine⟨ws, .no, .no,(lJ ((hand 0).trans (by simp [w0]))).trans ((sG ((hway 1 _ rfl).trans (by simp [w1]))).trans (lI e)),l.trans dJ,b⟩
  by_cases w2:way=2/\0<m
  ·obtain⟨nm,hk,lk⟩:=eE ns (at'+22) (m:=m) (by omega)
   obtain⟨ws,e,l,b⟩:=dX (n:=0) (cs:=[7,5]) (it:=bN (aB 3)) (e:=rIx (aT 2) (a9 .Sub (aB 0) (a9 .Mult (a9 .Mod (a9 .FloorDiv (aB 0) (rIx (eT [rK (.int 1),rK (.int 2),rK (.int 4),rK (.int 8)]) (aB 1))) (rK (.int 2))) (rIx (eT [rK (.int 1),rK (.int 2),rK (.int 4),rK (.int 8)]) (aB 1))))) (P:=bit) (ds:=nY (2 ^ m))
    (ρ:=[.sh (Sc ns), .sh (.int at'), .sh (.int m), .sh (.int (2 ^ m:Nat)), .sh (.int way), .ow ws0, .no, .sh (.int nm), .no]) (.inl (eO rfl (by omega))) fun d h=>by
     obtain⟨j,hj,rfl⟩:=gA h
     have hpn:=xA (m:=nm) (by omega)
     have hle:j / 2 ^ nm % 2 * 2 ^ nm<=j:=Nat.le_trans (Nat.mul_le_mul_right _ (Nat.mod_le _ _)) (Nat.div_mul_le_self ..)
     obtain⟨w,hw,bw⟩:=aB0 b0 (p:=j - j / 2 ^ nm % 2 * 2 ^ nm) (by omega)
     refine⟨[.sh (.int j)],w,rfl,(q8 (x:= .lst ws0) (y:= .int (j - j / 2 ^ nm % 2 * 2 ^ nm:Nat)) rfl ?_).trans hw,bw⟩
     refine(aW rfl ((aW ((aW ((aW rfl (ix4 (a:=aB 1) (j:=nm) rfl (by omega))).trans (wY (by omega) (by omega))) rfl).trans (lK (by decide))) (ix4 (a:=aB 1) (j:=nm) rfl (by omega))).trans (aBz (aKe (by omega) (by omega))))).trans ?_
     show R.ok (D.int ((j:Int) - (j:Int) / ((2 ^ nm:Nat):Int) % 2 * ((2 ^ nm:Nat):Int)))=_
     rw [Int.ofNat_sub hle,Int.natCast_mul,Int.natCast_emod,Int.natCast_ediv];rfl
   refine⟨ws, .no, .sh (.int nm),(lJ ((hand 0).trans (by simp [w0]))).trans ((lJ ((hway 1 _ rfl).trans (by simp [w1]))).trans ((sG ((hand 2).trans (by simp [w2]))).trans ((cN (fP ((f9 rfl rfl rfl).trans hk))).trans (lI e)))),l.trans dJ,b⟩
  ·exact⟨ws0, .no, .no,(lJ ((hand 0).trans (by simp [w0]))).trans ((lJ ((hway 1 _ rfl).trans (by simp [w1]))).trans ((lJ ((hand 2).trans (by simp [w2]))).trans rfl)),l0,b0⟩
 obtain⟨ws1,a,b,e1,l1,b1⟩:=h4
 -- one worth turned
 have h5: ∃ ws c,(sIf (fI (bW .Lt (aB 4) (rK (.int 3))) (bW .Eq (aD aH [aB 0,a9 .Add (aB 1) (rK (.int 23)),rK (.int 3)]) (rK (.int 0))))
   (aV (g0 8 (aD aH [aB 0,a9 .Add (aB 1) (rK (.int 24)),aB 3]))
    (aAy 5 (aB 8) (a9 .Sub (rK (.int 1)) (rIx (aT 5) (aB 8)))))
   (bQ)) [.sh (Sc ns), .sh (.int at'), .sh (.int m), .sh (.int (2 ^ m:Nat)), .sh (.int way), .ow ws1,a,b, .no]
   = .nx [.sh (Sc ns), .sh (.int at'), .sh (.int m), .sh (.int (2 ^ m:Nat)), .sh (.int way), .ow ws,a,b,c]/\ws.length=2 ^ m/\ ∀ w∈ws,bit w:=by
  obtain⟨q,hq,lq⟩:=eE ns (at'+23) (m:=3) (by omega)
  have hc: ∃ t,fI (bW .Lt (aB 4) (rK (.int 3))) (bW .Eq (aD aH [aB 0,a9 .Add (aB 1) (rK (.int 23)),rK (.int 3)]) (rK (.int 0))) [.sh (Sc ns), .sh (.int at'), .sh (.int m), .sh (.int (2 ^ m:Nat)), .sh (.int way), .ow ws1,a,b, .no]= .ok (.bl t):=by
   have h1:bW .Lt (aB 4) (rK (.int 3)) [.sh (Sc ns), .sh (.int at'), .sh (.int m), .sh (.int (2 ^ m:Nat)), .sh (.int way), .ow ws1,a,b, .no]= .ok (.bl (decide ((way:Int)<3))):=rfl
   by_cases hh:(way:Int)<3
   ·exact⟨_,(aBx (h1.trans (by simp [hh]))).trans ((gR ((f9 rfl rfl rfl).trans hq) rfl).trans (o8 rfl))⟩
   ·exact⟨_,aBy (h1.trans (by simp [hh]))⟩
  obtain⟨t,ht⟩:=hc
  cases t with
  | false=>exact⟨ws1, .no,(lJ ht).trans rfl,l1,b1⟩
  | true=>
   obtain⟨pl,hl,ll⟩:=eE ns (at'+24) (m:=2 ^ m) (by omega)
   obtain⟨w,hw,bw⟩:=aB0 b1 (p:=pl) (by omega)
   have hb: ∃ v,kM .Sub (.int 1) w= .ok v/\bit v:=by
    rcases bw with rfl | rfl
    ·exact⟨_,rfl, .inr rfl⟩
    ·exact⟨_,rfl, .inl rfl⟩
   obtain⟨v,hv,bv⟩:=hb
   refine⟨ws1.set pl v, .sh (.int pl),(sG ht).trans ((cN (fP ((f9 rfl rfl rfl).trans hl))).trans ?_),by simp [l1],fun x mx=> ?_⟩
   ·have hx:(a9 .Sub (rK (.int 1)) (rIx (aT 5) (aB 8))) [.sh (Sc ns), .sh (.int at'), .sh (.int m), .sh (.int (2 ^ m:Nat)), .sh (.int way), .ow ws1,a,b, .sh (.int pl)]= .ok v:=(aW rfl ((q8 rfl rfl).trans hw)).trans hv
    have hi:ixD ws1.length (pl:Int)=some pl:=by simp [ixD];omega
    show aAy 5 (aB 8) (a9 .Sub (rK (.int 1)) (rIx (aT 5) (aB 8))) [.sh (Sc ns), .sh (.int at'), .sh (.int m), .sh (.int (2 ^ m:Nat)), .sh (.int way), .ow ws1,a,b, .sh (.int pl)]=_
    unfold aAy;rw [hx];simp [fQ,aB,hi]
   ·rcases List.mem_or_eq_of_mem_set mx with h | rfl
    ·exact b1 x h
    ·exact bv
 obtain⟨ws2,c,e2,l2,b2⟩:=h5
 refine⟨ws2,cP ((cN (fP (ix5 (a:=aB 2) (j:=m) rfl hm))).trans ((cN (fP ((f9 rfl rfl rfl).trans hw))).trans ((cN (lI e0)).trans ((cN e1).trans ((cN e2).trans (cO (aMy rfl ((kB rfl).trans rfl)))))))),l2,b2⟩
noncomputable def bD (b:Bool):D:= .int (b2i b)
noncomputable def sw (m:Nat) (a:List Bool):D:= .tup [.int (m:Nat), .tup (a.map bD)]
noncomputable def aX:Nat->List (List Bool)
 | 0=>[[]]
 | n+1=>(aX n).flatMap fun t=>[t++[false],t++[true]]
theorem gG: ∀ {m:Nat} {t:List Bool},t.length=m->t∈aX m
 | 0,t,h=>by simp at h;simp [h,aX]
 | m+1,t,h=>by
  rcases List.eq_nil_or_concat t with rfl | ⟨u,x,rfl⟩
  ·simp at h
  ·simp only [aX,List.mem_flatMap]
   refine⟨u,gG (by simpa using h), ?_⟩
   cases x<;>simp
theorem xD: ∀ {ws:List D},(∀ w∈ws,bit w)-> ∃ a:List Bool,ws=a.map bD
 | [],_=>⟨[],rfl⟩
 | w::ws,h=>by
  obtain⟨a,e⟩:=xD (ws:=ws) fun x hx=>h x (.tail _ hx)
  obtain⟨b,hb⟩: ∃ b:Bool,w=bD b:=by
   rcases h w (.head _) with z | z
   ·exact⟨false,z⟩
   ·exact⟨true,z⟩
  exact⟨b::a,by rw [hb,e];rfl⟩
noncomputable def cI:FS:=aV (aF9 354 5 jD [rK (.str "a"),aB 6])
 (aV (aF9 354 5 jD [rK (.str "b"),aB 6])
 (aV (iP 1 (eT [eJ cV [6] (aD cS [aB 0])]))
 (aV (lL 1 (eJ cV [6] (aD cY [aB 0])))
 (aV (lL 1 (eJ cV [4] (aD cF [a9 .Mult (jH [rK .non]) (aB 0)])))
 (aV (lL 1 (eJ cV [6] (aD bM [aB 0])))
 (aV (lL 1 (eJ cV [5] (jK 354 0 dF [])))
 (aV (lL 1 (eJ cV [5] (jK 354 0 kG [rK (.str "a")])))
 (aV (jI [2,3] (jH [aD cS [aB 6],aD bM [aB 6]]))
 (aV (sIf (rOr (bW .NotEq (aD dZ [aB 4,aB 2]) (aB 6)) (bW .NotEq (aD cG [aB 4,aB 3]) (aB 6)))
 (aV (dG (rK (.bl false)))
  (bQ))
 (bQ))
 (aV (dG (fI (bW .Eq (aT 1) (a9 .Mult (eT [rK (.bl true)]) (rK (.int 6)))) (fI (bW .Eq (aB 2) (aD cS [aB 6])) (fI (bW .Eq (aB 3) (aD bM [aB 6])) (bW .Eq (jK 354 5 gF []) (jH [rK (.int 2),rK (.int 0)]))))))
 (bQ)))))))))))
noncomputable abbrev st (s0:Slot) (m:Nat) (a:List Bool):Rho:=[s0, .no, .no, .no, .sh (.int (m:Nat)), .rk 354 ⟨[],[],[]⟩, .sh (sw m a)]
noncomputable abbrev tt:List Bool->Out:=fun _=> .rt (.ok (.bl true))
theorem t0 (s:Slot):(aX 1).map (fun a=>cI (st s 0 a))=(aX 1).map tt:=by kernel_rfl
theorem t1 (s:Slot):(aX 2).map (fun a=>cI (st s 1 a))=(aX 2).map tt:=by kernel_rfl
theorem t2 (s:Slot):(aX 4).map (fun a=>cI (st s 2 a))=(aX 4).map tt:=by kernel_rfl
theorem aPa (s:Slot):(aX 4).map (fun a=>cI (st s 3 ([false,false,false,false]++a)))=(aX 4).map tt:=by kernel_rfl
theorem aPb (s:Slot):(aX 4).map (fun a=>cI (st s 3 ([true,false,false,false]++a)))=(aX 4).map tt:=by kernel_rfl
theorem aPc (s:Slot):(aX 4).map (fun a=>cI (st s 3 ([false,true,false,false]++a)))=(aX 4).map tt:=by kernel_rfl
theorem aPd (s:Slot):(aX 4).map (fun a=>cI (st s 3 ([true,true,false,false]++a)))=(aX 4).map tt:=by kernel_rfl
theorem aPe (s:Slot):(aX 4).map (fun a=>cI (st s 3 ([false,false,true,false]++a)))=(aX 4).map tt:=by kernel_rfl
theorem aPf (s:Slot):(aX 4).map (fun a=>cI (st s 3 ([true,false,true,false]++a)))=(aX 4).map tt:=by kernel_rfl
theorem aPg (s:Slot):(aX 4).map (fun a=>cI (st s 3 ([false,true,true,false]++a)))=(aX 4).map tt:=by kernel_rfl
theorem aPh (s:Slot):(aX 4).map (fun a=>cI (st s 3 ([true,true,true,false]++a)))=(aX 4).map tt:=by kernel_rfl
theorem aPi (s:Slot):(aX 4).map (fun a=>cI (st s 3 ([false,false,false,true]++a)))=(aX 4).map tt:=by kernel_rfl
theorem aPj (s:Slot):(aX 4).map (fun a=>cI (st s 3 ([true,false,false,true]++a)))=(aX 4).map tt:=by kernel_rfl
theorem aM3 (s:Slot):(aX 4).map (fun a=>cI (st s 3 ([false,true,false,true]++a)))=(aX 4).map tt:=by kernel_rfl
theorem aM4 (s:Slot):(aX 4).map (fun a=>cI (st s 3 ([true,true,false,true]++a)))=(aX 4).map tt:=by kernel_rfl
theorem aM5 (s:Slot):(aX 4).map (fun a=>cI (st s 3 ([false,false,true,true]++a)))=(aX 4).map tt:=by kernel_rfl
theorem aM6 (s:Slot):(aX 4).map (fun a=>cI (st s 3 ([true,false,true,true]++a)))=(aX 4).map tt:=by kernel_rfl
theorem aM7 (s:Slot):(aX 4).map (fun a=>cI (st s 3 ([false,true,true,true]++a)))=(aX 4).map tt:=by kernel_rfl
theorem aM8 (s:Slot):(aX 4).map (fun a=>cI (st s 3 ([true,true,true,true]++a)))=(aX 4).map tt:=by kernel_rfl
theorem tab (s:Slot) {m:Nat} (hm:m<=3) {a:List Bool} (la:a.length=2 ^ m):cI (st s m a)= .rt (.ok (.bl true)):=by
 rcases(show m=0\/m=1\/m=2\/m=3 by omega) with rfl | rfl | rfl | rfl
 ·exact List.map_inj_left.1 (t0 s) a (gG la)
 ·exact List.map_inj_left.1 (t1 s) a (gG la)
 ·exact List.map_inj_left.1 (t2 s) a (gG la)
 ·match a,la with
  | [b0,b1,b2,b3,b4,b5,b6,b7],_=>
   have h:[b4,b5,b6,b7]∈aX 4:=gG rfl
   cases b0<;>cases b1<;>cases b2<;>cases b3
   ·exact List.map_inj_left.1 (aPa s) _ h
   ·exact List.map_inj_left.1 (aPi s) _ h
   ·exact List.map_inj_left.1 (aPe s) _ h
   ·exact List.map_inj_left.1 (aM5 s) _ h
   ·exact List.map_inj_left.1 (aPc s) _ h
   ·exact List.map_inj_left.1 (aM3 s) _ h
   ·exact List.map_inj_left.1 (aPg s) _ h
   ·exact List.map_inj_left.1 (aM7 s) _ h
   ·exact List.map_inj_left.1 (aPb s) _ h
   ·exact List.map_inj_left.1 (aPj s) _ h
   ·exact List.map_inj_left.1 (aPf s) _ h
   ·exact List.map_inj_left.1 (aM6 s) _ h
   ·exact List.map_inj_left.1 (aPd s) _ h
   ·exact List.map_inj_left.1 (aM4 s) _ h
   ·exact List.map_inj_left.1 (aPh s) _ h
   ·exact List.map_inj_left.1 (aM8 s) _ h
theorem aAp (ns:List Int): ∃ m:Nat,m<=3/\bX [Sc ns, .int 0]= .ok (.int m):=by
 obtain⟨h1,h2⟩:=jE ns 0 (m:=7) (by decide)
 have hp:=w8 ns 0 (m:=7) (by decide)
 obtain⟨p,hp2⟩: ∃ p:Nat,o9 ns 0 7=p:=⟨(o9 ns 0 7).toNat,(Int.toNat_of_nonneg h1).symm⟩
 rw [hp2] at hp h2
 have lp:p<7:=by omega
 have e:(rIx (eT [rK (.int 0),rK (.int 1),rK (.int 2),rK (.int 2),rK (.int 2),rK (.int 3),rK (.int 3)]) (aD aH [aB 0,aB 1,rK (.int 7)])) [.sh (Sc ns), .sh (.int 0)]= .ok (([.int 0, .int 1, .int 2, .int 2, .int 2, .int 3, .int 3]:List D).getD p .non):=by
  refine(wX rfl ((f9 (y:= .int ((0:Nat):Int)) (z:= .int 7) rfl rfl rfl).trans hp)).trans (gS (xs:=[.int 0, .int 1, .int 2, .int 2, .int 2, .int 3, .int 3]) ?_)
  rcases(show p=0\/p=1\/p=2\/p=3\/p=4\/p=5\/p=6 by omega) with rfl | rfl | rfl | rfl | rfl | rfl | rfl<;>rfl
 rcases(show p=0\/p=1\/p=2\/p=3\/p=4\/p=5\/p=6 by omega) with rfl | rfl | rfl | rfl | rfl | rfl | rfl
 ·exact⟨0,by decide,cP (cO e)⟩
 ·exact⟨1,by decide,cP (cO e)⟩
 ·exact⟨2,by decide,cP (cO e)⟩
 ·exact⟨2,by decide,cP (cO e)⟩
 ·exact⟨2,by decide,cP (cO e)⟩
 ·exact⟨3,by decide,cP (cO e)⟩
 ·exact⟨3,by decide,cP (cO e)⟩
theorem aM9 (ns:List Int):aAm ([D.lst (ns.map D.int)].map SK.Slot.sh++ak 6 .no)= .rt (.ok (.bl true)):=by
 obtain⟨m,hm,e1⟩:=aAp ns
 obtain⟨ws,e2,l2,b2⟩:=xC ns 10 (m:=m) (by omega)
 obtain⟨a,rfl⟩:=xD b2
 have h0:aAm=aV (wT 4 5 354 (aD bX [aB 0,rK (.int 0)])) (aV (g0 6 (aD bZ [aB 0,rK (.int 10),aB 4])) cI):=by rfl
 show aAm [.sh (Sc ns), .no, .no, .no, .no, .no, .no]=_
 rw [h0]
 have h1:(wT 4 5 354 (aD bX [aB 0,rK (.int 0)])) [.sh (Sc ns), .no, .no, .no, .no, .no, .no]= .nx [.sh (Sc ns), .no, .no, .no, .sh (.int m), .rk 354 ⟨[],[],[]⟩, .no]:=by
  show fQ _ _ _=_
  rw [(kC (x:=Sc ns) (y:= .int 0) rfl rfl).trans e1]
  rfl
 refine(cN h1).trans ((cN (fP ((f9 (x:=Sc ns) (y:= .int ((10:Nat):Int)) (z:= .int (m:Nat)) rfl rfl rfl).trans e2))).trans ?_)
 exact tab (.sh (Sc ns)) hm (by simpa using l2)
open PySem.Spec PyProof.Rows L2 PySem.W
noncomputable abbrev KK (w:World):PySem.W.Frag:=kK w.params
noncomputable abbrev ge (x:Str) (g:SK.Gl):Str×SK.Gl:=(x,g)
noncomputable def tbL:List (Str×SK.Gl):=[ge "Rack" (.cls 354 [("counts",0,gF),("like",1,kG),("switch_of",1,cQ),("labels",0,dF),("put",2,jD),("do",3,aAl),("set_to",2,cT)]),ge "Rack" (.cls 354 [("like",1,kG),("switch_of",1,cQ),("labels",0,dF),("put",2,jD),("do",3,aAl),("set_to",2,cT)]),ge "Rack" (.cls 354 [("switch_of",1,cQ),("labels",0,dF),("put",2,jD),("do",3,aAl),("set_to",2,cT)]),ge "Rack" (.cls 354 [("labels",0,dF),("put",2,jD),("do",3,aAl),("set_to",2,cT)]),ge "Rack" (.cls 354 [("put",2,jD),("do",3,aAl),("set_to",2,cT)]),ge "Rack" (.cls 354 [("do",3,aAl),("set_to",2,cT)]),ge "Rack" (.cls 354 [("set_to",2,cT)]),ge "Rack" (.cls 354 []),ge "_law_names" (.fn 30 2 bX),ge "_law_switch" (.fn 29 3 bZ),ge "_law_odd" (.fn 28 2 dM),ge "_law_setting" (.fn 27 2 aK),ge "_law_pick" (.fn 26 3 aH),ge "_law_cell" (.fn 25 2 dI),ge "check_label" (.fn 24 1 cH),ge "is_label" (.fn 23 1 e9),ge "of_products" (.fn 22 2 cG),ge "products" (.fn 21 1 bM),ge "odd_within" (.fn 20 2 cZ),ge "essentials" (.fn 19 1 cY),ge "primes" (.fn 18 1 cS),ge "widened" (.fn 17 1 gE),ge "all_terms" (.fn 16 1 eC),ge "of_terms" (.fn 15 2 dZ),ge "held_at" (.fn 14 1 cF),ge "check_term" (.fn 13 2 cW),ge "is_term" (.fn 12 2 gC),ge "is_part" (.fn 11 1 gB),ge "of_ones" (.fn 10 2 eP),ge "ones" (.fn 9 1 rB),ge "check_many" (.fn 8 1 bY),ge "check_switch" (.fn 7 1 bI),ge "is_switch" (.fn 6 1 eB),ge "how_many_settings" (.fn 5 1 aL),ge "is_row" (.fn 4 3 iD),ge "is_many" (.fn 3 1 dY),ge "are_whole_below" (.fn 2 2 aR),ge "is_whole_below" (.fn 1 2 aU),ge "is_whole" (.fn 0 1 eZ),ge (cD .sorted) (.py .sorted),ge (cD .any) (.py .any),ge (cD .all) (.py .all),ge (cD .sum) (.py .sum),ge (cD .list) (.py .list),ge (cD .tuple) (.py .tuple),ge (cD .str) (.py .str),ge (cD .bool) (.py .bool),ge (cD .int) (.py .int),ge (cD .isin) (.py .isin),ge (cD .zip) (.py .zip),ge (cD .enum) (.py .enum),ge (cD .range) (.py .range),ge (cD .len) (.py .len),ge "ValueError" .verr,ge "NoBack" (.exc 5),ge "NoLabel" (.exc 4),ge "NoTerm" (.exc 3),ge "NoName" (.exc 2),ge "NoSwitch" (.exc 1),ge "SwitchError" (.exc 0),ge "PARTS" (.val (.tup [.int 0, .int 1, .non])),ge "LONGEST_LABEL" (.val (.int 4)),ge "MOST_NAMES" (.val (.int 4))]
noncomputable def flL:List (Nat×Fn):=[(1,eZ),(2,aU),(2,aR),(1,dY),(3,iD),(1,aL),(1,eB),(1,bI),(1,bY),(1,rB),(2,eP),(1,gB),(2,gC),(2,cW),(1,cF),(2,dZ),(1,eC),(1,gE),(1,cS),(1,cY),(2,cZ),(1,bM),(2,cG),(1,e9),(1,cH),(2,dI),(3,aH),(2,aK),(2,dM),(3,bZ),(2,bX)]
set_option maxHeartbeats 0 in
theorem all_mk {l:PySem.W.OpenLaw} {w:World} {h:Heap} {mg:Str->Option Value} {fa:Addr} (X:(KK w).In h) (G:h.Ns mainGlobals mg) (hfa:mg "law"=some (.ref fa)):
  ∃ ad C tn F g k n m c P0 params body scope,LawT l.prog w (KK w) mg fa "law" ad C tn F g k n m c P0 params body scope:=by
 cases hfa.symm.trans (PySem.W.mg_of X G (n:="law") (v:= .ref 408) (by kernel_rfl))
 refine⟨(zN [31,44,56,68,80,92] 31 [101,108,113,120,127,134,141,148,155,160,165,173,178,185,190,197,202,207,212,217,222,229,236,241,248,365,372,382,387,377,394]),⟨tbL,flL,defScope (top 50),aC (defScope (top 50)),tU 50 (defBody (top 50))⟩,"_law_stays",cV,aAm,38,100,6,407,403,defArgs (top 50),defBody (top 50),defScope (top 50), ?_⟩
 refine⟨⟨_,_,_,_,_,_,_,_,_,rfl,fun s u=> .of_eq rfl⟩,by kernel_rfl,by kernel_rfl,⟨rfl,by decide,by decide⟩,by kernel_rfl,by kernel_rfl,fun s₁ base H KX GX hC hB=> ?_,by kernel_rfl,by kernel_rfl,aM9⟩
 have t:PQ l.prog w (KK w) mg base base (zN [31,44,56,68,80,92] 31 [101,108,113,120,127,134,141,148,155,160,165,173,178,185,190,197,202,207,212,217,222,229,236,241,248,365,372,382,387,377,394]) 0 [] []:= .nil KX GX (aEt (by kernel_rfl) (by kernel_rfl))
 have t:=t.int "MOST_NAMES" 4 296
 have t:=t.int "LONGEST_LABEL" 4 469
 have t:=t.val "PARTS" (u:= .ref 166) (v:= .ref 166) rfl (fun G=>wE (ds:=[.int 0, .int 1, .non]) (vs:=[.int 0, .int 1, .non]) rfl rfl rfl rfl (by decide) (by repeat (first | exact .nil | refine .cons ⟨_,rfl⟩ ?_ | refine .cons rfl ?_)) (by repeat (first | exact aF.nil | refine aF.cons (by unfold Rep;rfl) ?_)))
 have t:=t.exc "SwitchError" 0
 have t:=t.exc "NoSwitch" 1
 have t:=t.exc "NoName" 2
 have t:=t.exc "NoTerm" 3
 have t:=t.exc "NoLabel" 4
 have t:=t.exc "NoBack" 5
 have t:=t.verr
 have t:=t.py .len
 have t:=t.py .range
 have t:=t.py .enum
 have t:=t.py .zip
 have t:=t.py .isin
 have t:=t.py .int
 have t:=t.py .bool
 have t:=t.py .str
 have t:=t.py .tuple
 have t:=t.py .list
 have t:=t.py .sum
 have t:=t.py .all
 have t:=t.py .any
 have t:=t.py .sorted
 have t:=t.add "is_whole" (top 10) 101 ["thing"] 1 eZ rfl
 have t:=t.add "is_whole_below" (top 11) 108 ["thing","bound"] 2 aU rfl
 have t:=t.add "are_whole_below" (top 12) 113 ["things","bound"] 2 aR rfl
 have t:=t.add "is_many" (top 13) 120 ["thing"] 1 dY rfl
 have t:=t.add "is_row" (top 14) 127 ["thing","length","bound"] 3 iD rfl
 have t:=t.add "how_many_settings" (top 15) 134 ["many"] 1 aL rfl
 have t:=t.add "is_switch" (top 17) 141 ["thing"] 1 eB rfl
 have t:=t.add "check_switch" (top 18) 148 ["thing"] 1 bI rfl
 have t:=t.add "check_many" (top 19) 155 ["thing"] 1 bY rfl
 have t:=t.add "ones" (top 20) 160 ["switch"] 1 rB rfl
 have t:=t.add "of_ones" (top 21) 165 ["many","numbers"] 2 eP rfl
 have t:=t.add "is_part" (top 24) 173 ["thing"] 1 gB rfl
 have t:=t.add "is_term" (top 25) 178 ["many","thing"] 2 gC rfl
 have t:=t.add "check_term" (top 26) 185 ["many","thing"] 2 cW rfl
 have t:=t.add "held_at" (top 27) 190 ["term"] 1 cF rfl
 have t:=t.add "of_terms" (top 28) 197 ["many","terms"] 2 dZ rfl
 have t:=t.add "all_terms" (top 29) 202 ["many"] 1 eC rfl
 have t:=t.add "widened" (top 30) 207 ["term"] 1 gE rfl
 have t:=t.add "primes" (top 31) 212 ["switch"] 1 cS rfl
 have t:=t.add "essentials" (top 32) 217 ["switch"] 1 cY rfl
 have t:=t.add "odd_within" (top 34) 222 ["many","numbers"] 2 cZ rfl
 have t:=t.add "products" (top 35) 229 ["switch"] 1 bM rfl
 have t:=t.add "of_products" (top 36) 236 ["many","numbers"] 2 cG rfl
 have t:=t.add "is_label" (top 39) 241 ["thing"] 1 e9 rfl
 have t:=t.add "check_label" (top 40) 248 ["thing"] 1 cH rfl
 have t:=t.add "_law_cell" (top 43) 365 ["_law_script","_law_k"] 2 dI rfl
 have t:=t.add "_law_pick" (top 44) 372 ["_law_script","_law_k","_law_many"] 3 aH rfl
 have t:=t.add "_law_setting" (top 46) 382 ["_law_many","_law_number"] 2 aK rfl
 have t:=t.add "_law_odd" (top 47) 387 ["_law_one","_law_other"] 2 dM rfl
 have t:=t.add "_law_switch" (top 45) 377 ["_law_script","_law_at","_law_many"] 3 bZ rfl
 have t:=t.add "_law_names" (top 48) 394 ["_law_script","_law_at"] 2 bX rfl
 have t:=t.rack 354 (aBt (by kernel_rfl) (by kernel_rfl) (by kernel_rfl) (by kernel_rfl) (by kernel_rfl) (by kernel_rfl) (by kernel_rfl))
 have t:=t.met "set_to" "Rack.set_to" (met 41 1) 269 "self" ["label","switch"] 2 cT rfl rfl
 have t:=t.met "do" "Rack.do" (met 41 2) 276 "self" ["word","label","switch"] 3 aAl rfl rfl
 have t:=t.met "put" "Rack.put" (met 41 3) 283 "self" ["label","switch"] 2 jD rfl rfl
 have t:=t.met "labels" "Rack.labels" (met 41 8) 318 "self" [] 0 dF rfl rfl
 have t:=t.met "switch_of" "Rack.switch_of" (met 41 4) 290 "self" ["label"] 1 cQ rfl rfl
 have t:=t.met "like" "Rack.like" (met 41 9) 323 "self" ["label"] 1 kG rfl rfl
 have t:=t.met "counts" "Rack.counts" (met 41 12) 344 "self" [] 0 gF rfl rfl
 have Fi:=pL (K:=KK w) (x:="__init__") (qual:="Rack.__init__") (st:=met 41 0) (f:=262) rfl (by kernel_rfl) (by kernel_rfl)
 have hib:=Fi.binds (ps:=["self"]) (by intro _ _ _ _ _ _ us hl;rcases us with _ | ⟨u0,_ | ⟨u1,us⟩⟩<;>first | rfl | (simp at hl))
 have Ft:=pL (K:=KK w) (x:="_law_stays") (qual:="_law_stays") (st:=top 49) (f:=401) rfl (by kernel_rfl) (by kernel_rfl)
 have hT:=aAk (tab:=tbL) (fns:=flL) (bs:=tU 50 (defBody (top 49))) (t:=⟨"_law_deed","_law_told","_law_kept",(defBody (top 49)).getD 1 (.Pass ⟨0,0,0,0⟩),(defBody (top 49)).getD 2 (.Pass ⟨0,0,0,0⟩),(defBody (top 49)).getD 3 (.Pass ⟨0,0,0,0⟩)⟩) t.B t.t t.u (fun _=>aFw) Ft (by kernel_rfl) (by kernel_rfl) (by kernel_rfl) (by kernel_rfl) (by kernel_rfl)
 exact aFq (tab:=tbL) (fns:=flL) (x:="_law_script") t.B t.t t.u (by kernel_rfl) ⟨rfl,by decide,by decide⟩ ⟨401,_,"_law_deed",PySem.W.mg_of KX GX (by kernel_rfl),by kernel_rfl,hT,fun s u _=> .of_eq rfl⟩ wZ (by decide) hC hB (fun A ms e=>by cases (show(some (SK.Gl.cls 354 [("counts",0,gF),("like",1,kG),("switch_of",1,cQ),("labels",0,dF),("put",2,jD),("do",3,aAl),("set_to",2,cT)]):Option SK.Gl)=some (SK.Gl.cls A ms) from e);exact⟨262,1,_,_,by decide,⟨by kernel_rfl,by kernel_rfl,by kernel_rfl,by kernel_rfl⟩,aJ4 (k:=0) (self:="self") (aBt (by kernel_rfl) (by kernel_rfl) (by kernel_rfl) (by kernel_rfl) (by kernel_rfl) (by kernel_rfl) (by kernel_rfl)) Fi (by kernel_rfl) (by kernel_rfl),hib⟩)
end SK.k77
open PySem PySem.W PyProof.Rows
set_option maxRecDepth 100000 in
set_option maxHeartbeats 0 in
theorem PySem.Challenge.cw_switchkinds_k77_whole_told_lists_holds : PySem.Challenge.rw_switchkinds_k77_whole_told_lists.Holds := by
 w_on;o_law
 refine PySem.W.holds_open (q:=SK.k77.kq) (loose:=[]) (Xt:=fun s=>PySem.W.xlAt SK.k77.kq [] s&&PySem.W.recOk (PySem.W.RowW.records (PySem.W.OpenRow.toRowW PySem.Challenge.rw_switchkinds_k77_whole_told_lists.row)) s) (XP:=PySem.W.XL SK.k77.kq []) (Yf:=PySem.W.Hook.obs (PySem.W.kHook SK.k77.kK SK.k77.kas (fun _=>by kernel_rfl))) (Ya:=PySem.W.Hook.val (PySem.W.kHook SK.k77.kK SK.k77.kas (fun _=>by kernel_rfl))) (YP:=PySem.W.Hook.says (PySem.W.kHook SK.k77.kK SK.k77.kas (fun _=>by kernel_rfl))) (N:=6026) SK.k77.left (PySem.W.Hook.of (PySem.W.kHook SK.k77.kK SK.k77.kas (fun _=>by kernel_rfl))) (PySem.W.Hook.keeps (PySem.W.kHook SK.k77.kK SK.k77.kas (fun _=>by kernel_rfl))) (fun s e=>PySem.W.xl_of s (Bool.and_eq_true_iff.mp e).1) PySem.W.XL.keeps (by rfl) (by rfl) (by rfl) (fun s e=>PySem.W.recFacts_of (Bool.and_eq_true_iff.mp e).2) (by rfl) (by first | assumption | decide+kernel) (by decide+kernel) ⟨rfl,rfl,rfl,rfl,rfl,by decide+kernel⟩ ?hw ?hc
 (case hw=>w_witness2)
 refine SK.walkT (l:=PySem.Challenge.rw_switchkinds_k77_whole_told_lists) rfl rfl (fun w h Y=>PySem.W.kIn_of Y) (Option.isSome_iff_exists.mp (by kernel_rfl)) ?F
 case F=>
  intro w mg fa h KX G hmg
  exact SK.k77.all_mk KX G hmg
