import PyProof.Rows.All
import Wide.All
import OpenK.AllK
import Wide.FinOn
import Lean
import PyProof.EqAt
import PyProof.EqKinds
import PyProof.TupleCall
import PySem.Syntax
import PySem.Builtin.Int.W1All
import PySem.Eval
import PyProof.P3Eq
import PyProof.NeData
import PyProof.Rows.IntBool
import PyProof.ExcArgs
import PyProof.RulesAs
import PyProof.RulesDel
import KE.KTryMore
import PyProof.ZipIter
import PyProof.EnumStmt
import PyProof.ListRange
import PyProof.TupleOfSeq
import PyProof.ConsumeS
import PyProof.Rows.MinMaxGenD
import PyProof.Rows.RuleM_int
import KE.KRevSl
import PyProof.SetNew
import PyProof.Rows.SetFrom
import PyProof.TupleKey
import PyProof.FactsAll.NoneType
import KE.KSortTup
import PyProof.DictRoadsH
import PyProof.DictWalks
import KE.KUnpack
import PySem.Challenge.RW_switchkinds_k52_whole_enough
open PySem renaming wpAny_bind->aa,wpAny_pure->ae
open PySem.Heap renaming get?_push_of_some->af,get?_push_size->ag,lt_size->ah,size_push->ai
open Nat renaming le_refl->aj,lt_of_lt_of_le->bf,ne_of_lt->bg,zero_le->bq
open List renaming replicate->ak,length_map->am,mem_map->ao,mem_cons->aq,size_toArray->av,getElem?_eq_some_iff->aw,getElem?_set_ne->az,getElem?_eq_getElem->ba,getElem?_set_self->bh,getElem?_append_right->bj,length_append->bn,length_cons->bo,mem_append_right->bp,getElem?_append_left->bt,getD_eq_getElem?_getD->bu
open Bool renaming and_eq_true->au,false_eq_true->ax,false_ne_true->bd
open False renaming elim->ay
theorem zBd {α β:Type} {o:Option α} {f:α->Option β} {b:β} (h:o.bind f=some b): ∃ a,o=some a/\f a=some b:=Option.bind_eq_some_iff.mp h
theorem zMd {α β:Type} {o:Option α} {f:α->β} {b:β} (h:o.map f=some b): ∃ a,o=some a/\f a=b:=Option.map_eq_some_iff.mp h
theorem zAd {α:Type} {l:List α} {p:α->Bool} (h:l.all p=true): ∀ x,x∈l->p x=true:=List.all_eq_true.mp h
theorem zPd {m n:Nat} (h:m<n):m∈List.range n:=List.mem_range.mpr h
theorem zRd {m n:Nat} (h:m∈List.range n):m<n:=List.mem_range.mp h
set_option Elab.async false
set_option linter.all false
set_option maxRecDepth 100000
set_option maxHeartbeats 0
namespace L2
open PySem
noncomputable def defArgs (s:Stmt):Arguments:=match s with
 | .FunctionDef _ a _ _ _ _ _ _ _ _=>a
 | _=>{ posonlyargs:=[],args:=[],vararg:=none,kwonlyargs:=[],kw_defaults:=[],kwarg:=none,defaults:=[] }
noncomputable def defBody (s:Stmt):List Stmt:=match s with
 | .FunctionDef _ _ b _ _ _ _ _ _ _=>b
 | _=>[]
noncomputable def defScope (s:Stmt):Scope:=match s with
 | .FunctionDef _ _ _ _ _ _ sc _ _ _=>sc
 | _=>{ kind:= .function,names:=[],isGenerator:=false,isCoroutine:=false }
end L2
namespace SK.k52
open PySem
noncomputable def top (i:Nat):Stmt:=PySem.Challenge.pw_switchkinds_k52_whole_enough.main.body.getD i (.Pass ⟨0,0,0,0⟩)
noncomputable abbrev en (P:Params) (k:Str) (t:Nat) (v:Value):DictEntry:=⟨PyData.keyHash P k, .str k t,v⟩
noncomputable abbrev fo (st:Stmt) (x m:Str) (t c:Nat):Obj:={ cls:= .type "function",data:= .func { name:=x,qualname:=x,params:=L2.defArgs st,body:= .stmts (L2.defBody st),scope:=L2.defScope st,globals:=3,closure:=[],defaults:= .none,kwdefaults:= .none,pyModule:= .str m t,code:= .ref c } }
noncomputable abbrev co (vs:Array Value):Obj:={ cls:= .type "code",data:= .fields vs }
noncomputable abbrev cC (x:Str) (a l n r e:Nat) (u v w:Value):Obj:=co #[.str x a, .str x (a+1), .str "/claim/cut.py" (a+2), .int l 0, .int n 0, .int 0 0, .int 0 0, .int 3 0, .ref r, .bool true, .int 181 0, .ref (r+1), .none,u,v,w, .int e 0, .int l 0, .str "/claim/cut.py" (e+1)]
noncomputable abbrev cA (x:Str) (a l n r e:Nat):Obj:=cC x a l n r e .none .none (.ref (r+2))
noncomputable abbrev cB (x:Str) (a l n r e:Nat):Obj:=cC x a l n r e (.ref (r+2)) (.ref (r+3)) (.ref (r+4))
noncomputable abbrev cK (x:Str) (f c ns s a b:Nat):Obj:={ cls:= .type "type",data:= .cls { name:=x,bases:=[.ref c],mro:=[.ref f, .ref c, .type "ValueError", .type "Exception", .type "BaseException", .type "object"],ns:=ns,qualname:=x },slots:= #[some (.ref s),none,some (.str x a),some (.str x b),some (.builtin "ValueError.__new__"),some (.bool true)] }
noncomputable abbrev dK (P:Params) (m:Str) (q a l r:Nat):Obj:={ cls:= .type "dict",data:= .dict #[en P "__module__" a (.str m q),en P "__firstlineno__" (a+4) (.int l (a+3)),en P "__static_attributes__" (a+5) (.ref r),en P "__doc__" (a+6) .none] 2 }
noncomputable def kK:Params->PySem.W.Frag:=fun P=>[
(3,{ cls:= .type "dict",data:= .dict #[en P "__name__" 165 (.str "law_switchkinds_k52_whole_enough" 525),en P "__doc__" 166 .none,en P "__package__" 167 .none,en P "__loader__" 168 (.builtin "__main__.__loader__#opaque"),en P "__spec__" 169 .none,en P "__annotations__" 170 (.ref 6),en P "__builtins__" 171 (.ref 4),en P "__file__" 173 (.str "/claim/cut.py" 172),en P "__cached__" 174 .none,en P "SwitchError" 206 (.ref 24),en P "NoSwitch" 222 (.ref 37),en P "NoName" 238 (.ref 49),en P "NoMove" 254 (.ref 61),en P "Unlike" 270 (.ref 73),en P "NoSums" 286 (.ref 85),en P "NoText" 302 (.ref 97),en P "MOST_NAMES" 306 (.int 4 305),en P "is_whole" 313 (.ref 106),en P "is_whole_below" 321 (.ref 113),en P "are_whole_below" 327 (.ref 118),en P "is_many" 334 (.ref 125),en P "is_row" 343 (.ref 132),en P "how_many_settings" 350 (.ref 139),en P "setting_at" 356 (.ref 144),en P "how_many_ones" 363 (.ref 151),en P "is_switch" 372 (.ref 158),en P "check_switch" 379 (.ref 165),en P "check_many" 386 (.ref 172),en P "check_name" 394 (.ref 179),en P "ones" 400 (.ref 184),en P "single" 406 (.ref 189),en P "summed" 414 (.ref 194),en P "sums" 420 (.ref 199),en P "sum_of_names" 426 (.ref 204),en P "nearest" 432 (.ref 209),en P "how_far" 439 (.ref 216),en P "is_sum" 446 (.ref 223),en P "WORDS" 454 (.ref 224),en P "MOST_NAMES_MADE" 456 (.int 2 455),en P "check_switches" 464 (.ref 231),en P "rising_above" 470 (.ref 236),en P "turns_with_names" 476 (.ref 241),en P "classes" 482 (.ref 246),en P "missing" 488 (.ref 251),en P "is_enough" 495 (.ref 258),en P "first_put_in" 501 (.ref 263),en P "all_put_in" 507 (.ref 268),en P "grown_by" 518 (.ref 275),en P "made_of" 524 (.ref 280),en P "_law_cell" 534 (.ref 287),en P "_law_pick" 544 (.ref 294),en P "_law_switch" 550 (.ref 299),en P "_law_setting" 556 (.ref 304),en P "_law_number" 562 (.ref 309),en P "_law_odd" 568 (.ref 314),en P "_law_names" 576 (.ref 321),en P "_law_places" 582 (.ref 326),en P "_law_put" 592 (.ref 333),en P "_law_spoilt_thing" 607 (.ref 340),en P "_law_is_bit" 614 (.ref 347),en P "_law_is_switch" 620 (.ref 352),en P "_law_is_move" 626 (.ref 357),en P "_law_word" 634 (.ref 364),en P "_law_do" 646 (.ref 371),en P "_law_found" 652 (.ref 376),en P "law" 658 (.ref 381)] 66 }),
(23,{ cls:= .type "dict",data:= .dict #[en P "__module__" 196 (.str "switchkinds.errors" 187),en P "__firstlineno__" 200 (.int 2 199),en P "__static_attributes__" 201 (.ref 22),en P "__weakref__" 203 (.ref 25),en P "__doc__" 204 .none] 3 }),
(24,{ cls:= .type "type",data:= .cls { name:="SwitchError",bases:=[.type "ValueError"],mro:=[.ref 24, .type "ValueError", .type "Exception", .type "BaseException", .type "object"],ns:=23,qualname:="SwitchError",subclasses:=[.ref 37, .ref 49, .ref 61, .ref 73, .ref 85, .ref 97] },slots:= #[some (.ref 15),none,some (.str "SwitchError" 189),some (.str "SwitchError" 197),some (.builtin "ValueError.__new__"),some (.bool true)] }),
(25,{ cls:= .type "getset_descriptor",data:= .fields #[.str "__weakref__" 202, .ref 24, .builtin "ExceptionGroup.__weakref__", .none] }),
(36,dK P "switchkinds.errors" 187 214 4 35),
(37,cK "NoSwitch" 37 24 36 28 207 215),
(48,dK P "switchkinds.errors" 187 230 6 47),
(49,cK "NoName" 49 24 48 40 223 231),
(60,dK P "switchkinds.errors" 187 246 8 59),
(61,cK "NoMove" 61 24 60 52 239 247),
(72,dK P "switchkinds.errors" 187 262 10 71),
(73,cK "Unlike" 73 24 72 64 255 263),
(84,dK P "switchkinds.errors" 187 278 12 83),
(85,cK "NoSums" 85 24 84 76 271 279),
(96,dK P "switchkinds.errors" 187 294 14 95),
(97,cK "NoText" 97 24 96 88 287 295),
(105,cB "is_whole" 307 18 1 100 311),
(106,fo (top 10) "is_whole" "switchkinds.wholes" 303 105),
(112,cB "is_whole_below" 314 20 2 107 319),
(113,fo (top 11) "is_whole_below" "switchkinds.wholes" 303 112),
(117,cA "are_whole_below" 322 22 2 114 325),
(118,fo (top 12) "are_whole_below" "switchkinds.wholes" 303 117),
(124,cB "is_many" 328 24 1 119 332),
(125,fo (top 13) "is_many" "switchkinds.wholes" 303 124),
(131,cB "is_row" 335 26 3 126 341),
(132,fo (top 14) "is_row" "switchkinds.wholes" 303 131),
(138,cB "how_many_settings" 344 28 1 133 348),
(139,fo (top 15) "how_many_settings" "switchkinds.wholes" 303 138),
(143,cA "setting_at" 351 30 2 140 354),
(144,fo (top 16) "setting_at" "switchkinds.wholes" 303 143),
(150,cB "how_many_ones" 357 32 1 145 361),
(151,fo (top 17) "how_many_ones" "switchkinds.wholes" 303 150),
(157,cB "is_switch" 366 35 1 152 370),
(158,fo (top 19) "is_switch" "switchkinds.switches" 364 157),
(164,cB "check_switch" 373 39 1 159 377),
(165,fo (top 20) "check_switch" "switchkinds.switches" 364 164),
(171,cB "check_many" 380 42 1 166 384),
(172,fo (top 21) "check_many" "switchkinds.switches" 364 171),
(178,cB "check_name" 387 45 2 173 392),
(179,fo (top 22) "check_name" "switchkinds.switches" 364 178),
(183,cA "ones" 395 48 1 180 398),
(184,fo (top 23) "ones" "switchkinds.switches" 364 183),
(188,cA "single" 401 51 2 185 404),
(189,fo (top 24) "single" "switchkinds.switches" 364 188),
(193,cA "summed" 409 56 1 190 412),
(194,fo (top 26) "summed" "switchkinds.sums" 407 193),
(198,cA "sums" 415 63 1 195 418),
(199,fo (top 27) "sums" "switchkinds.sums" 407 198),
(203,cA "sum_of_names" 421 66 3 200 424),
(204,fo (top 28) "sum_of_names" "switchkinds.sums" 407 203),
(208,cA "nearest" 427 69 1 205 430),
(209,fo (top 29) "nearest" "switchkinds.sums" 407 208),
(215,cB "how_far" 433 76 1 210 437),
(216,fo (top 30) "how_far" "switchkinds.sums" 407 215),
(222,cB "is_sum" 440 78 1 217 444),
(223,fo (top 31) "is_sum" "switchkinds.sums" 407 222),
(224,{ cls:= .type "tuple",data:= .seq #[.str "keeps 0" 449, .str "keeps 1" 450, .str "turned" 451, .str "rising" 452, .str "sum" 453] 0 }),
(230,cB "check_switches" 457 83 1 225 462),
(231,fo (top 35) "check_switches" "switchkinds.classes" 447 230),
(235,cA "rising_above" 465 88 1 232 468),
(236,fo (top 36) "rising_above" "switchkinds.classes" 447 235),
(240,cA "turns_with_names" 471 95 1 237 474),
(241,fo (top 37) "turns_with_names" "switchkinds.classes" 447 240),
(245,cA "classes" 477 98 1 242 480),
(246,fo (top 38) "classes" "switchkinds.classes" 447 245),
(250,cA "missing" 483 104 1 247 486),
(251,fo (top 39) "missing" "switchkinds.classes" 447 250),
(257,cB "is_enough" 489 108 1 252 493),
(258,fo (top 40) "is_enough" "switchkinds.classes" 447 257),
(262,cA "first_put_in" 496 110 2 259 499),
(263,fo (top 41) "first_put_in" "switchkinds.classes" 447 262),
(267,cA "all_put_in" 502 112 3 264 505),
(268,fo (top 42) "all_put_in" "switchkinds.classes" 447 267),
(274,cB "grown_by" 508 120 3 269 516),
(275,fo (top 43) "grown_by" "switchkinds.classes" 447 274),
(279,cA "made_of" 519 125 2 276 522),
(280,fo (top 44) "made_of" "switchkinds.classes" 447 279),
(286,cB "_law_cell" 527 136 2 281 532),
(287,fo (top 46) "_law_cell" "law_switchkinds_k52_whole_enough" 525 286),
(293,cB "_law_pick" 535 142 3 288 542),
(294,fo (top 47) "_law_pick" "law_switchkinds_k52_whole_enough" 525 293),
(298,cA "_law_switch" 545 145 3 295 548),
(299,fo (top 48) "_law_switch" "law_switchkinds_k52_whole_enough" 525 298),
(303,cA "_law_setting" 551 161 2 300 554),
(304,fo (top 49) "_law_setting" "law_switchkinds_k52_whole_enough" 525 303),
(313,cA "_law_odd" 563 165 2 310 566),
(314,fo (top 51) "_law_odd" "law_switchkinds_k52_whole_enough" 525 313),
(325,cA "_law_places" 577 169 1 322 580),
(326,fo (top 53) "_law_places" "law_switchkinds_k52_whole_enough" 525 325),
(332,cB "_law_put" 583 175 3 327 590),
(333,fo (top 54) "_law_put" "law_switchkinds_k52_whole_enough" 525 332),
(339,cB "_law_spoilt_thing" 593 180 3 334 605),
(340,fo (top 55) "_law_spoilt_thing" "law_switchkinds_k52_whole_enough" 525 339),
(346,cB "_law_is_bit" 608 194 1 341 612),
(347,fo (top 56) "_law_is_bit" "law_switchkinds_k52_whole_enough" 525 346),
(351,cA "_law_is_switch" 615 196 1 348 618),
(352,fo (top 57) "_law_is_switch" "law_switchkinds_k52_whole_enough" 525 351),
(363,cB "_law_word" 627 212 1 358 632),
(364,fo (top 59) "_law_word" "law_switchkinds_k52_whole_enough" 525 363),
(370,cB "_law_do" 635 218 3 365 644),
(371,fo (top 60) "_law_do" "law_switchkinds_k52_whole_enough" 525 370),
(375,cA "_law_found" 647 231 2 372 650),
(376,fo (top 61) "_law_found" "law_switchkinds_k52_whole_enough" 525 375),
(380,cA "law" 653 250 1 377 656),
(381,fo (top 62) "law" "law_switchkinds_k52_whole_enough" 525 380)]
noncomputable def kas:List Addr:=[3,23,24,25,36,37,48,49,60,61,72,73,84,85,96,97,105,106,112,113,117,118,124,125,131,132,138,139,143,144,150,151,157,158,164,165,171,172,178,179,183,184,188,189,193,194,198,199,203,204,208,209,215,216,222,223,224,230,231,235,236,240,241,245,246,250,251,257,258,262,263,267,268,274,275,279,280,286,287,293,294,298,299,303,304,313,314,325,326,332,333,339,340,346,347,351,352,363,364,370,371,375,376,380,381]
noncomputable def kq:Program:={ PySem.Challenge.pw_switchkinds_k52_whole_enough with main:={ PySem.Challenge.pw_switchkinds_k52_whole_enough.main with body:=[top 1,top 2,top 3,top 4,top 5,top 6,top 7,top 9,top 10,top 11,top 12,top 13,top 14,top 15,top 16,top 17,top 19,top 20,top 21,top 22,top 23,top 24,top 26,top 27,top 28,top 29,top 30,top 31,top 33,top 34,top 35,top 36,top 37,top 38,top 39,top 40,top 41,top 42,top 43,top 44,top 46,top 47,top 48,top 49,top 50,top 51,top 52,top 53,top 54,top 55,top 56,top 57,top 58,top 59,top 60,top 61,top 62] } }
theorem lk1 (w:World):(PySem.W.openEnds treeTable PySem.Challenge.rw_switchkinds_k52_whole_enough.row.prog w 5872).map (fun s=>PyProof.Rows.seen ((PyProof.Rows.recsOf kq).map (·.name)) (PyProof.Rows.ownsOf kq) [] { s with gens:= #[] })=some (PyProof.Rows.expectedOf kq):=by kernel_rfl
theorem lk2 (w:World):(PySem.W.openEnds treeTable PySem.Challenge.rw_switchkinds_k52_whole_enough.row.prog w 5872).map (fun s=>(s.heap.bltView,s.heap.keysOk (PySem.W.looseW kq []) ((PyProof.Rows.recsOf kq).map (·.name)) ((PyProof.Rows.litsOf kq).map (·.1)) ((PyProof.Rows.clssOf kq (PySem.W.looseW kq [])).map (·.name))&&s.heap.accountedOkI (importedModules PySem.Challenge.rw_switchkinds_k52_whole_enough.row.prog.main.body)&&s.heap.isNs mainGlobals&&s.heap.isNs builtinsNs&&PyProof.Rows.tablesOk kq s.heap&&(fun s=>PySem.W.xlAt kq [] s&&PySem.W.recOk (PySem.W.RowW.records (PySem.W.OpenRow.toRowW PySem.Challenge.rw_switchkinds_k52_whole_enough.row)) s) s&&(if true then s.gens.size==0 else !leftWithCleanup s.gens)))=some (bltViewBooted,true):=by kernel_rfl
theorem lk3 (w:World):(PySem.W.openEnds treeTable PySem.Challenge.rw_switchkinds_k52_whole_enough.row.prog w 5872).map (fun s=>(PyProof.Rows.tabsOk kq s,pinSeenD kq (PyProof.Rows.drecsOf kq) s))=some (true,pinGoodD (PyProof.Rows.drecsOf kq)):=by kernel_rfl
theorem lk4 (w:World):(PySem.W.openEnds treeTable PySem.Challenge.rw_switchkinds_k52_whole_enough.row.prog w 5872).map (fun s=>(PyProof.Rows.plainSeenE kq (PySem.W.looseW kq []) s,PyProof.Rows.plainSeenD kq [] s,PySem.W.wideSeen kq s,PySem.W.clsSeenW kq [] s))=some (PyProof.Rows.plainGoodE kq (PySem.W.looseW kq []),PyProof.Rows.plainGoodD kq [],PySem.W.wideGood kq,PySem.W.clsGoodW kq []):=by kernel_rfl
theorem lk5 (w:World):(PySem.W.openEnds treeTable PySem.Challenge.rw_switchkinds_k52_whole_enough.row.prog w 5872).map (fun s=>PySem.W.Hook.obs (PySem.W.kHook kK kas (fun _=>by kernel_rfl)) s)=some (PySem.W.Hook.val (PySem.W.kHook kK kas (fun _=>by kernel_rfl)) w):=by kernel_rfl
theorem aO5 {α β1 β2 β3 β4 β5:Type} {o:Option α} {f1:α->β1} {f2:α->β2} {f3:α->β3} {f4:α->β4} {f5:α->β5} {b1:β1} {b2:β2} {b3:β3} {b4:β4} {b5:β5} (h1:o.map f1=some b1) (h2:o.map f2=some b2) (h3:o.map f3=some b3) (h4:o.map f4=some b4) (h5:o.map f5=some b5): ∃ s,o=some s/\f1 s=b1/\f2 s=b2/\f3 s=b3/\f4 s=b4/\f5 s=b5:=by
 cases o with
 | none=>cases h1
 | some s=>exact⟨s,rfl,Option.some.inj h1,Option.some.inj h2,Option.some.inj h3,Option.some.inj h4,Option.some.inj h5⟩
theorem left:PySem.W.LeftO PySem.Challenge.rw_switchkinds_k52_whole_enough.row.prog kq [] (fun s=>PySem.W.xlAt kq [] s&&PySem.W.recOk (PySem.W.RowW.records (PySem.W.OpenRow.toRowW PySem.Challenge.rw_switchkinds_k52_whole_enough.row)) s) (PySem.W.Hook.obs (PySem.W.kHook kK kas (fun _=>by kernel_rfl))) (PySem.W.Hook.val (PySem.W.kHook kK kas (fun _=>by kernel_rfl))) 5872:=fun w=>by
 obtain⟨s,hs,e1,e2,e3,e4,e5⟩:=aO5 (lk1 w) (lk2 w) (lk3 w) (lk4 w) (lk5 w)
 rw [hs]
 refine congrArg some (Prod.ext (Prod.ext e1 (Prod.ext (congrArg (·.1) e2) (Prod.ext (congrArg (·.2) e2) (Prod.ext (congrArg (·.1) e3) (Prod.ext (congrArg (·.2) e3) (Prod.ext (congrArg (·.1) e4) (Prod.ext (congrArg (·.2.1) e4) (Prod.ext (congrArg (·.2.2.1) e4) (congrArg (·.2.2.2) e4))))))))) e5)
end SK.k52
namespace L2
open PySem PySem.Spec PyProof.Rows
abbrev Key:=Sum Int Str
noncomputable def aIp:Key->Value->Bool
 | .inl k,v=>Value.isInt k v
 | .inr x,v=>Value.isStrOf x v
noncomputable def aO6 (w:World):Key->Int
 | .inl k=>hashInt k
 | .inr x=>hashStr w x
theorem bS: ∀ {k:Key} {v:Value},aIp k v=true->(∃ i t,k=Sum.inl i/\v=Value.int i t)\/(∃ x t,k=Sum.inr x/\v=Value.str x t)
 | .inl i,v,h=>by
  obtain⟨t,e⟩:=Value.isInt_shape (k:=i) (v:=v) h
  exact .inl ⟨i,t,rfl,e⟩
 | .inr x,v,h=>by
  obtain⟨t,e⟩:=Value.isStrOf_shape (x:=x) (v:=v) h
  exact .inr ⟨x,t,rfl,e⟩
theorem aIq (a b:Int):decide ((Sum.inl a:Key)=Sum.inl b)=(a==b):=by
 by_cases e:a=b
 ·subst e;simp
 ·have h: ¬ (Sum.inl a:Key)=Sum.inl b:=fun q=>e (Sum.inl.inj q)
  rw [decide_eq_false h]
  exact(beq_eq_false_iff_ne.mpr e).symm
theorem aIr (a b:Str):decide ((Sum.inr a:Key)=Sum.inr b)=decide (a=b):=by
 by_cases e:a=b
 ·subst e;simp
 ·have h: ¬ (Sum.inr a:Key)=Sum.inr b:=fun q=>e (Sum.inr.inj q)
  rw [decide_eq_false h,decide_eq_false e]
theorem aIs (a:Int) (b:Str):decide ((Sum.inl a:Key)=Sum.inr b)=false:=decide_eq_false (fun q=>nomatch q)
theorem aIt (a:Str) (b:Int):decide ((Sum.inr a:Key)=Sum.inl b)=false:=decide_eq_false (fun q=>nomatch q)
noncomputable def wO (prog:Program) (w:World):PySem.KeyKind prog w Key where
 is:=aIp
 hash:=aO6 w
 inj:=fun v a b ha hb=>by
  rcases bS ha with ⟨i,t,rfl,rfl⟩ | ⟨x,t,rfl,rfl⟩
  ·rcases bS hb with ⟨j,u,rfl,e⟩ | ⟨y,u,rfl,e⟩
   ·injection e with e1 _;rw [e1]
   ·exact nomatch e
  ·rcases bS hb with ⟨j,u,rfl,e⟩ | ⟨y,u,rfl,e⟩
   ·exact nomatch e
   ·injection e with e1 _;rw [e1]
 byValue:=fun k v h=>by
  rcases bS h with ⟨i,t,rfl,rfl⟩ | ⟨x,t,rfl,rfl⟩<;>rfl
 pyHash:=fun hv h=>by
  rcases bS hv with ⟨i,t,rfl,rfl⟩ | ⟨x,t,rfl,rfl⟩
  ·exact wpAny_pyHash_int h
  ·exact wpAny_pyHash_str h
 eqBool:=fun hu hv h=>by
  rcases bS hu with ⟨i,t,rfl,rfl⟩ | ⟨x,t,rfl,rfl⟩
  ·rcases bS hv with ⟨j,u,rfl,rfl⟩ | ⟨y,u,rfl,rfl⟩
   ·rw [aIq] at h;exact wpAny_eqBool_int h
   ·rw [aIs] at h;exact SeqAt.EqAt.int_str i t y u _ _ _ _ h
  ·rcases bS hv with ⟨j,u,rfl,rfl⟩ | ⟨y,u,rfl,rfl⟩
   ·rw [aIt] at h;exact SeqAt.EqAt.str_int x t j u _ _ _ _ h
   ·rw [aIr] at h;exact wpAny_eqBool_str h
 «strs»:=fun k x t v h=>by
  rcases bS h with ⟨i,u,rfl,e⟩ | ⟨y,u,rfl,e⟩
  ·exact nomatch e
  ·injection e with e1 _
   subst e1
   cases v<;>rfl
inductive V where
 | non | bl (b:Bool) | int (i:Int) | str (x:Str) | byt (b:Array UInt8) | flt (b:UInt64) | ref (a:Addr) | ty (n:String)
 deriving DecidableEq
noncomputable def b9:V->Value->Prop
 | .non,u=>u=Value.none
 | .bl b,u=>u=Value.bool b
 | .int i,u=> ∃ t,u=Value.int i t
 | .str x,u=> ∃ t,u=Value.str x t
 | .byt b,u=> ∃ t,u=Value.bytes b t
 | .flt b,u=> ∃ t,u=Value.float b t
 | .ref a,u=>u=Value.ref a
 | .ty n,u=>u=Value.type n
noncomputable abbrev bI:List V->List Value->Prop:=Paired b9
theorem bI.length {xs:List V} {us:List Value} (r:bI xs us):xs.length=us.length:=Paired.length r
theorem bI.get: ∀ {xs:List V} {us:List Value} {i:Nat} {x:V},bI xs us->xs[i]? =some x-> ∃ u,us[i]? =some u/\b9 x u
 | _,_,_,_, .nil,e=>by simp at e
 | _,_,0,_, .cons r _,e=>by simp at e;subst e;exact⟨_,rfl,r⟩
 | _,_,i+1,x, .cons _ t,e=>by
  obtain⟨u,h1,h2⟩:=bI.get (i:=i) (x:=x) t (by simpa using e)
  exact⟨u,by simpa using h1,h2⟩
theorem bI.set {x:V} {u:Value} (r:b9 x u): ∀ {xs:List V} {us:List Value} (i:Nat),bI xs us->bI (xs.set i x) (us.set i u)
 | _,_,_, .nil=> .nil
 | _,_,0, .cons _ t=> .cons r t
 | _,_,i+1, .cons q t=> .cons q (bI.set r i t)
theorem bI.append: ∀ {xs ys:List V} {us ws:List Value},bI xs us->bI ys ws->bI (xs++ys) (us++ws)
 | _,_,_,_, .nil,s=>s
 | _,_,_,_, .cons r t,s=> .cons r (bI.append t s)
theorem bI.take: ∀ {xs:List V} {us:List Value} (n:Nat),bI xs us->bI (xs.take n) (us.take n)
 | _,_,0,_=> .nil
 | _,_,_+1, .nil=> .nil
 | _,_,n+1, .cons r t=> .cons r (bI.take n t)
theorem bI.drop: ∀ {xs:List V} {us:List Value} (n:Nat),bI xs us->bI (xs.drop n) (us.drop n)
 | _,_,0,r=>r
 | _,_,_+1, .nil=> .nil
 | _,_,n+1, .cons _ t=>bI.drop n t
noncomputable def aOh:Option V->Option Value->Prop
 | some v,some u=>b9 v u
 | none,none=>True
 | _,_=>False
noncomputable def KV {κ:Type}:List (κ×V)->List (κ×Value)->Prop:=Paired fun(p:κ×V) (q:κ×Value)=>p.1=q.1/\b9 p.2 q.2
noncomputable def kV:Key->V
 | .inl i=> .int i
 | .inr x=> .str x
inductive HO where
 /-- a list -/
 | lst (xs:List V)
 /-- a tuple (never changes) -/
 | tup (xs:List V)
 /-- a dict whose keys are ints and texts;one whose keys are tuples of ints and texts (the empty one is both) -/
 | dK (kvs:List (Key×V)) | dT (kvs:List (List Key×V))
 /-- a set of ints:its members,its size -/
 | set (S:Int->Bool) (n:Nat)
 /-- an instance of the class at C,its dict at dx,its attributes -/
 | ins (C dx:Addr) (fs:List (Str×V))
 /-- the dict of the instance at x -/
 | own (x:Addr)
 /-- the dict of an exception -/
 | xd (fs:List (Str×V))
 /-- a bound method,f of x -/
 | met (f x:Addr)
 /-- a range object lo,lo+1, .. below hi -/
 | rng (lo hi:Int)
 /-- a thing that is known to the object (the script;a dict while a loop walks it):read,never written while it is so -/
 | frz (o:Obj) (u:HO)
 /-- a code object's table -/
 | tbl (ps:Array Value)
 /-- any other thing,by what is true of its one object (a def of one's own:SetO a S n:=HO.ext fun h=> ..) -/
 | ext (φ:Heap->Prop)
abbrev Hp:=Addr->Option HO
noncomputable def upd (H:Hp) (a:Addr) (o:HO):Hp:=fun b=>if b=a then some o else H b
theorem a9 {H:Hp} {a:Addr} {o:HO}:upd H a o a=some o:=by unfold upd;rw [if_pos rfl]
theorem aM {H:Hp} {a b:Addr} {o:HO} (h:b≠a):upd H a o b=H b:=by unfold upd;rw [if_neg h]
theorem bF {H:Hp} {a b:Addr} {o:HO} (h:H a=some o) (h':H b=none):a≠b:=by
 intro e;subst e;rw [h] at h';cases h'
def aIu (h:Heap) (a:Addr):Prop:= ∃ o,h.get? a=some o/\o.dict=none
section
variable (P:Program) (w:World)
noncomputable def ObjOk (H:Hp) (h:Heap) (a:Addr):HO->Prop
 | .lst xs=>xs.length<=sizeLine/\ ∃ (its:List Value) (n:Nat),bI xs its/\h.get? a=some { cls:= .type "list",data:= .seq its.toArray n }
 | .tup xs=>xs.length<=sizeLine/\ ∃ its:List Value,bI xs its/\IsTup h a its.toArray/\aIu h a
 | .dK kvs=>kvs.length<=sizeLine/\(a==sysModules)=false/\ ∃ vs,KV kvs vs/\h.DictOf (wO P w) a vs
 | .dT kvs=>kvs.length<=sizeLine/\(a==sysModules)=false/\ ∃ xs:List (List Key×Addr×Value),
   Paired (fun(p:List Key×V) (q:List Key×Addr×Value)=>p.1=q.1/\H q.2.1=some (.tup (p.1.map kV))/\b9 p.2 q.2.2) kvs xs/\
   ∃ o es ep,h.get? a=some o/\o.ExactDict/\o.data= .dict es ep/\es.toList=xs.map (entryOfKey (tupleKind (wO P w)))/\(xs.map (·.1)).Nodup
 | .set S n=>h.SetOf (intKind P w) a S n
 | .ins C dx fs=>H dx=some (.own a)/\fs.length<=1000/\dx≠a/\h.get? a=some (PySem.W.instObj C dx)/\
   ∃ mA,h.Ns1 dx mA/\(∀ f,aOh (fs.lookup f) (mA f))/\PySem.Within mA (fs.map (·.1))
 | .own _=> ∃ o,h.get? a=some o
 | .xd fs=> ∃ mA,h.Ns1 a mA/\ ∀ f,aOh (fs.lookup f) (mA f)
 | .rng lo hi=> ∃ t u v,h.get? a=some { cls:= .type "range",data:= .fields #[.int lo t, .int hi u, .int 1 v] }
 | .frz o u=>h.get? a=some o/\ObjOk H h a u
 | .tbl ps=>h.get? a=some { cls:= .none,data:= .fields ps }
 | .met f x=>h.get? a=some (PySem.W.methodObj (.ref f) (.ref x))
 | .ext φ=>φ h/\(∃ o,h.get? a=some o)/\ ∀ h1 h2:Heap,φ h1->(∀ o,h1.get? a=some o->h2.get? a=some o)->φ h2
def HOk (H:Hp) (h:Heap):Prop:= ∀ a o,H a=some o->ObjOk P w H h a o
end
section
variable {P:Program} {w:World} {H H':Hp} {h h':Heap} {a:Addr} {o:HO}
theorem ObjOk.lt (x:ObjOk P w H h a o):a<h.objs.size:=by
 cases o with
 | lst xs=>obtain⟨_,_,_,_,e⟩:=x;exact ah e
 | tup xs=>obtain⟨_,_,_,p,_⟩:=x;exact p.lt
 | dK kvs=>obtain⟨_,_,_,_,o,_,_,e,_⟩:=x;exact ah e
 | dT kvs=>obtain⟨_,_,_,_,o,_,_,e,_⟩:=x;exact ah e
 | set S n=>obtain⟨o,_,_,_,e,_⟩:=x;exact ah e
 | ins C dx fs=>obtain⟨_,_,_,e,_⟩:=x;exact ah e
 | own y=>obtain⟨_,e⟩:=x;exact ah e
 | xd fs=>obtain⟨_,⟨_,_,_,e,_⟩,_⟩:=x;exact ah e
 | rng lo hi=>obtain⟨_,_,_,e⟩:=x;exact ah e
 | frz ob u=>obtain⟨e,_⟩:=x;exact ah e
 | tbl ps=>exact ah (show h.get? a=some _ from x)
 | met f y=>exact ah (show h.get? a=some _ from x)
 | ext φ=>obtain⟨_,⟨_,e⟩,_⟩:=x;exact ah e
theorem Paired.mapP {α β:Type} {F G:α->β->Prop}: ∀ {l₁:List α} {l₂:List β},Paired F l₁ l₂->(∀ a b,F a b->G a b)->Paired G l₁ l₂
 | _,_, .nil,_=> .nil
 | _,_, .cons r t,f=> .cons (f _ _ r) (Paired.mapP t f)
theorem ObjOk.stay (x:ObjOk P w H h a o) (k: ∀ b u,(b=a\/H b=some (.own a))->h.get? b=some u->h'.get? b=some u)
  (ho: ∀ b,H b=some (.own a)->H' b=some (.own a)) (ht: ∀ b xs,H b=some (.tup xs)->H' b=some (.tup xs)):ObjOk P w H' h' a o:=by
 induction o with
 | lst xs=>obtain⟨z,its,n,r,e⟩:=x;exact⟨z,its,n,r,k _ _ (.inl rfl) e⟩
 | tup xs=>obtain⟨z,its,r,⟨ob,e,c⟩,od,e',d⟩:=x;exact⟨z,its,r,⟨ob,k _ _ (.inl rfl) e,c⟩,od,k _ _ (.inl rfl) e',d⟩
 | dK kvs=>obtain⟨z,y,vs,r,ob,es,ep,e,c⟩:=x;exact⟨z,y,vs,r,ob,es,ep,k _ _ (.inl rfl) e,c⟩
 | dT kvs=>
  obtain⟨z,y,xs,r,ob,es,ep,e,c⟩:=x
  exact⟨z,y,xs,Paired.mapP r fun p q z=>⟨z.1,ht _ _ z.2.1,z.2.2⟩,ob,es,ep,k _ _ (.inl rfl) e,c⟩
 | set S n=>obtain⟨ob,es,ep,t,e,c⟩:=x;exact⟨ob,es,ep,t,k _ _ (.inl rfl) e,c⟩
 | ins C dx fs=>
  obtain⟨d,z,ne,e,mA,⟨od,es,ep,e2,c⟩,r⟩:=x
  exact⟨ho _ d,z,ne,k _ _ (.inl rfl) e,mA,⟨od,es,ep,k _ _ (.inr d) e2,c⟩,r⟩
 | own y=>obtain⟨ob,e⟩:=x;exact⟨ob,k _ _ (.inl rfl) e⟩
 | xd fs=>obtain⟨mA,⟨od,es,ep,e,c⟩,r⟩:=x;exact⟨mA,⟨od,es,ep,k _ _ (.inl rfl) e,c⟩,r⟩
 | rng lo hi=>obtain⟨t,u,v,e⟩:=x;exact⟨t,u,v,k _ _ (.inl rfl) e⟩
 | frz ob u ih=>obtain⟨e,q⟩:=x;exact⟨k _ _ (.inl rfl) e,ih q⟩
 | tbl ps=>
  have e:h.get? a=some { cls:= .none,data:= .fields ps }:=x
  show h'.get? a=some { cls:= .none,data:= .fields ps }
  exact k a _ (.inl rfl) e
 | met f y=>
  have e:h.get? a=some (PySem.W.methodObj (.ref f) (.ref y)):=x
  show h'.get? a=some (PySem.W.methodObj (.ref f) (.ref y))
  exact k a _ (.inl rfl) e
 | ext φ=>obtain⟨p,⟨o,e⟩,st⟩:=x;exact⟨st _ _ p fun o q=>k _ _ (.inl rfl) q,⟨o,k _ _ (.inl rfl) e⟩,st⟩
theorem HOk.lt (x:HOk P w H h) (e:H a=some o):a<h.objs.size:=(x a o e).lt
theorem HOk.fresh (x:HOk P w H h) (e:h.objs.size<=a):H a=none:=by
 cases q:H a with
 | none=>rfl
 | some u=>exact absurd (bf (x.lt q) e) (Nat.lt_irrefl _)
theorem HOk.kept (x:HOk P w H h) (k: ∀ b u,h.get? b=some u->h'.get? b=some u):HOk P w H h':=fun a o e=>
 (x a o e).stay (fun b u _ q=>k b u q) (fun _ q=>q) fun _ _ q=>q
theorem HOk.laid (x:HOk P w H h) (k: ∀ b u,h.get? b=some u->h'.get? b=some u) (hp:h.objs.size<=a) (new:ObjOk P w (upd H a o) h' a o):HOk P w (upd H a o) h':=fun b u e=>by
 have hn:=x.fresh hp
 by_cases hb:b=a
 ·subst hb;rw [a9] at e;cases e;exact new
 ·rw [aM hb] at e
  exact(x b u e).stay (fun c v _ q=>k c v q) (fun c q=>by rw [aM (bF q hn)];exact q) fun c xs q=>by rw [aM (bF q hn)];exact q
end
def Rd (H:Hp) (a:Addr) (u:HO):Prop:=H a=some u\/ ∃ o,H a=some (.frz o u)
theorem Rd.ok {P:Program} {w:World} {H:Hp} {h:Heap} {a:Addr} {u:HO} (r:Rd H a u) (x:HOk P w H h):ObjOk P w H h a u:=by
 rcases r with r | ⟨o,r⟩
 ·exact x a u r
 ·obtain⟨_,q⟩:=x a _ r
  exact q
noncomputable def Mut:Option HO->Prop
 | some (.lst _)=>True
 | some (.dK _)=>True
 | some (.dT _)=>True
 | some (.set _ _)=>True
 | some (.ins _ _ _)=>True
 | some (.ext _)=>True
 | _=>False
section
variable {P:Program} {w:World} {H:Hp} {h h':Heap} {x e:Addr} {o':HO}
theorem HOk.write (ok:HOk P w H h) (mu:Mut (H x)) (he:e=x\/H e=some (.own x)) (k: ∀ b u,b≠e->h.get? b=some u->h'.get? b=some u) (heo: ∃ u,h'.get? e=some u)
  (new:ObjOk P w (upd H x o') h' x o'):HOk P w (upd H x o') h':=fun b u q=>by
 have nown: ∀ c y,H c=some (.own y)->c≠x:=fun c y r z=>by subst z;rw [r] at mu;exact mu
 have ntup: ∀ c xs,H c=some (.tup xs)->c≠x:=fun c xs r z=>by subst z;rw [r] at mu;exact mu
 by_cases hb:b=x
 ·subst hb;rw [a9] at q;cases q;exact new
 ·rw [aM hb] at q
  by_cases hbe:b=e
  ·have q':H b=some (.own x):=by
    rcases he with z | z
    ·exact absurd (hbe.trans z) hb
    ·rw [hbe];exact z
   rw [q] at q';cases q'
   obtain⟨v,hv⟩:=heo
   exact⟨v,by rw [hbe];exact hv⟩
  ·refine(ok b u q).stay (fun c v hc r=>k c v ?_ r) (fun c r=>by rw [aM (nown c b r)];exact r) fun c xs r=>by rw [aM (ntup c xs r)];exact r
   rcases hc with rfl | hc
   ·exact hbe
   ·rintro rfl
    rcases he with z | z
    ·exact nown c b hc z
    ·rw [hc] at z;cases z;exact hb rfl
end
structure Un (fs ex:List Addr) (H H':Hp) (h h':Heap):Prop where
 keep: ∀ b o,h.get? b=some o->H b=none->b∉fs->b∉ex->h'.get? b=some o
 slot: ∀ b o,h.get? b=some o->H b=none->b∈fs->b∉ex-> ∃ sl,h'.get? b=some { o with slots:=sl }
 free: ∀ b o,h.get? b=some o->H b=none->b∉ex->H' b=none
 there: ∀ b o,h.get? b=some o->b∉ex-> ∃ o',h'.get? b=some o'
 tups: ∀ b xs,H b=some (.tup xs)->H' b=some (.tup xs)
 frzs: ∀ b o u,H b=some (.frz o u)->H' b=some (.frz o u)
 tbls: ∀ b ps,H b=some (.tbl ps)-> ∃ more,H' b=some (.tbl (ps++more))
section
variable {fs fs' ex ex':List Addr} {H H1 H2:Hp} {h h1 h2 h':Heap} {a x e:Addr} {o:HO}
theorem Un.any (u:Un fs ex H H1 h h1) {b:Addr} {ob:Obj} (q:h.get? b=some ob) (n:H b=none) (hx:b∉ex): ∃ sl,h1.get? b=some { ob with slots:=sl }:=by
 by_cases hb:b∈fs
 ·exact u.slot b ob q n hb hx
 ·exact⟨ob.slots,u.keep b ob q n hb hx⟩
theorem Un.kept (k: ∀ b u,h.get? b=some u->h'.get? b=some u):Un fs ex H H h h':=
 ⟨fun b ob q _ _ _=>k b ob q,fun b ob q _ _ _=>⟨ob.slots,k b ob q⟩,fun _ _ _ n _=>n,fun b ob q _=>⟨ob,k b ob q⟩,fun _ _ q=>q,fun _ _ _ q=>q,fun _ ps q=>⟨#[],by rw [q];simp⟩⟩
theorem Un.refl:Un fs ex H H h h:=Un.kept fun _ _ q=>q
theorem Un.laid (k: ∀ b u,h.get? b=some u->h'.get? b=some u) (hp:h.objs.size<=a) (hn:H a=none):Un fs ex H (upd H a o) h h' where
 keep:=fun b u q _ _ _=>k b u q
 slot:=fun b u q _ _ _=>⟨u.slots,k b u q⟩
 free:=fun b u q n _=>by rw [aM (bg (bf (ah q) hp))];exact n
 there:=fun b u q _=>⟨u,k b u q⟩
 tups:=fun b xs q=>by rw [aM (bF q hn)];exact q
 frzs:=fun b u xs q=>by rw [aM (bF q hn)];exact q
 tbls:=fun b ps q=>⟨#[],by rw [aM (bF q hn),q];simp⟩
theorem Un.write (mu:Mut (H x)) (he:e=x\/H e=some (.own x)) (k: ∀ b u,b≠e->h.get? b=some u->h'.get? b=some u) (heo: ∃ u,h'.get? e=some u):Un fs ex H (upd H x o) h h':=by
 have hx: ∀ b,H b=none->b≠x:=fun b n z=>by subst z;rw [n] at mu;exact mu
 have hb: ∀ b,H b=none->b≠e:=fun b n z=>by
  subst z
  rcases he with r | r
  ·exact hx b n r
  ·rw [n] at r;cases r
 have hm: ∀ b u,H b=some u-> ¬ Mut (some u)->b≠x:=fun b u q nm z=>by subst z;rw [q] at mu;exact nm mu
 refine⟨fun b u q n _ _=>k b u (hb b n) q,fun b u q n _ _=>⟨u.slots,k b u (hb b n) q⟩,fun b u q n _=>by rw [aM (hx b n)];exact n,fun b u q _=> ?_,
  fun b xs q=>by rw [aM (hm b _ q fun z=>z)];exact q,fun b u xs q=>by rw [aM (hm b _ q fun z=>z)];exact q,fun b ps q=>⟨#[],by rw [aM (hm b _ q fun z=>z),q];simp⟩⟩
 by_cases hbe:b=e
 ·subst hbe;exact heo
 ·exact⟨u,k b u hbe q⟩
end
noncomputable def trk (h:Heap) (H:Hp):List Addr:=(List.range h.objs.size).filter fun a=>(H a).isSome
noncomputable def aAz (h:Heap) (H:Hp):Heap:=PySem.W.hideAll h (trk h H)
theorem wP (h:Heap) (H:Hp):(aAz h H).objs.size=h.objs.size:=PySem.W.hideAll_size _ _
theorem aA0 {h:Heap} {H:Hp} {b:Addr} {o:Obj} (e:h.get? b=some o) (n:H b=none):(aAz h H).get? b=some o:=
 PySem.W.hideAll_get _ e fun hm=>by
  have q:(H b).isSome=true:=(List.mem_filter.mp hm).2
  rw [n] at q;simp at q
theorem aE3 {h:Heap} {H:Hp} {b:Addr} {o:Obj} (e:(aAz h H).get? b=some o):h.get? b=some o/\H b=none:=by
 have e':h.get? b=some o:=PySem.W.of_hideAll (trk h H) e
 refine⟨e', ?_⟩
 cases q:H b with
 | none=>rfl
 | some x=>
  have hm:b∈trk h H:=List.mem_filter.mpr ⟨zPd (ah e'),by simp [q]⟩
  have z:(aAz h H).get? b=none:=PySem.W.hideAll_none (trk h H) hm
  rw [z] at e;cases e
noncomputable def aE4 (g h:Heap) (L:Addr):List (Addr×Obj):=(List.range h.objs.size).filterMap fun a=>if a=L\/(g.get? a).isSome=true then none else(h.get? a).map fun o=>(a,o)
noncomputable def d7 (g h:Heap) (L d:Addr):List (Addr×Obj):=(aE4 g h L).filter fun p=>decide (p.1≠d)
structure Mod (K:PySem.W.Frag) (mg:Str->Option Value) (base:Heap):Prop where
 kin:K.In base
 glob:base.Ns mainGlobals mg
 blt: ∃ mb,base.Ns builtinsNs mb/\ ∀ x:Str,x≠"__name__"->mb x=bootBuiltins x
 nolimit:base.NoLimit
structure Cx where
 prog:Program
 w:World
 K:PySem.W.Frag
 mg:Str->Option Value
 base:Heap
 A:Around
 N:List Str
 s₀:Shared
 H₀:Hp
 env:Env
 outer:List Env
 stack:List Env
 ex:List Addr
 fn:Str->Bool
 calm:Bool
 pn:List (Addr×Obj)
 xe:Value->Shared->Prop
noncomputable def frs (l:List Env):List Addr:=l.filterMap (·.frame)
noncomputable abbrev Cx.fs (X:Cx):List Addr:=frs X.outer
def Vis (sc:Scope) (x:Str):Prop:=sc.names.lookup x=some .local\/sc.names.lookup x=some .cell\/sc.names.lookup x=some .free
def Loc (sc:Scope) (x:Str):Prop:=sc.names.lookup x=some .local\/sc.names.lookup x=some .cell
def aO7 (env:Env) (h:Heap) (m:Str->Option Value) (x:Str) (u:Value):Prop:=
 (env.kindOf x=some .local/\m x=some u)\/((env.kindOf x=some .cell\/env.kindOf x=some .free)/\ ∃ c,env.cells.lookup x=some c/\h.IsCell c (some u))
structure Cx.Ok (X:Cx):Prop where
 mod:Mod X.K X.mg X.base
 kind:X.env.scope.kind= .function
 glob:X.env.globals=mainGlobals
 blt:X.env.builtins=builtinsNs
 above:X.s₀.heap.objs.size<=X.env.locals
 inj: ∀ x y c,X.env.cells.lookup x=some c->X.env.cells.lookup y=some c->x=y
 has: ∀ x,(X.env.kindOf x=some .cell\/X.env.kindOf x=some .free)-> ∃ c,X.env.cells.lookup x=some c
 cab: ∀ x c,X.fn x=true->X.env.cells.lookup x=some c->X.s₀.heap.objs.size<=c
 hd:X.calm=true->X.A.handled=none
 frames:X.A.frames=some X.stack
 stk:X.stack=X.outer\/(X.stack=X.env::X.outer/\X.env.frame=some X.env.locals)
 exf: ∀ b∈X.ex,b≠X.env.locals/\ ∀ x c,X.env.cells.lookup x=some c->c≠b
 bs: ∀ b o,X.base.get? b=some o->X.s₀.heap.get? b=some o/\X.H₀ b=none
 bsz:X.base.objs.size<=X.s₀.heap.objs.size
 noex: ∀ b o,X.base.get? b=some o->b∉X.ex
 exfs: ∀ b∈X.ex,b∉X.fs
 funs:X.s₀.heap.FunFrames X.base X.outer
 frf: ∀ b∈X.fs,X.H₀ b=none
structure Inv (X:Cx) (pins:List (Addr×Obj)) (σ:List (Option V)) (H:Hp) (s:Shared):Prop where
 ok:X.Ok
 os:s.os=X.s₀.os
 bare:AllBare s.gens
 base:Un X.fs X.ex X.H₀ H X.s₀.heap s.heap
 loc: ∃ m,s.heap.Ns X.env.locals m/\ ∀ (i:Nat) (x:Str) (v:V),X.N[i]? =some x->σ[i]? =some (some v)->Vis X.env.scope x-> ∃ u,b9 v u/\aO7 X.env s.heap m x u
 cell: ∀ x c,X.env.cells.lookup x=some c-> ∃ v,s.heap.IsCell c v
 free:H X.env.locals=none
 freeC: ∀ x c,X.env.cells.lookup x=some c->H c=none
 pin: ∀ p∈X.pn++pins,s.heap.get? p.1=some p.2/\H p.1=none/\p.1≠X.env.locals/\p.1∉X.fs/\ ∀ v,p.2.data≠ .cell v
 hok:HOk X.prog X.w H s.heap
 len:σ.length=X.N.length
section
variable {X:Cx} {pins:List (Addr×Obj)} {σ:List (Option V)} {H H':Hp} {s:Shared} {h':Heap}
theorem Cx.Ok.nofr (ok:X.Ok) {b:Addr} {o:Obj} (e:X.base.get? b=some o):b∉X.fs:=fun hb=>by
 have:=(ok.funs.mem hb).1
 rw [e] at this;cases this
theorem Inv.bs (I:Inv X pins σ H s): ∀ b o,X.base.get? b=some o->s.heap.get? b=some o/\H b=none:=fun b o e=>
 ⟨I.base.keep b o (I.ok.bs b o e).1 (I.ok.bs b o e).2 (I.ok.nofr e) (I.ok.noex b o e),I.base.free b o (I.ok.bs b o e).1 (I.ok.bs b o e).2 (I.ok.noex b o e)⟩
theorem Inv.bk (I:Inv X pins σ H s): ∀ b o,X.base.get? b=some o->s.heap.get? b=some o:=fun b o e=>(I.bs b o e).1
theorem Inv.mod (I:Inv X pins σ H s):Mod X.K X.mg X.base:=I.ok.mod
theorem Inv.kIn (I:Inv X pins σ H s):X.K.In s.heap:=I.ok.mod.kin.keeps I.bk
theorem Inv.lt (I:Inv X pins σ H s):X.env.locals<s.heap.objs.size:=let ⟨_,hn,_⟩:=I.loc;hn.lt
theorem Inv.sz (I:Inv X pins σ H s):X.s₀.heap.objs.size<=s.heap.objs.size:=Nat.le_trans I.ok.above (Nat.le_of_lt I.lt)
theorem Inv.nofs (I:Inv X pins σ H s) {a:Addr} (h:s.heap.objs.size<=a):a∉X.fs:=fun hb=>by
 obtain⟨_,o,ho,_⟩:=I.ok.funs.mem hb
 exact absurd (bf (ah ho) (Nat.le_trans I.sz h)) (Nat.lt_irrefl _)
theorem Inv.cne (I:Inv X pins σ H s): ∀ x c,X.env.cells.lookup x=some c->c≠X.env.locals:=fun x c e z=>by
 obtain⟨v,o,ho,hd⟩:=I.cell x c e
 obtain⟨m,⟨o',es,ep,ho',hd',_⟩,_⟩:=I.loc
 rw [z,ho'] at ho;cases ho;rw [hd'] at hd;cases hd
theorem Inv.funs (I:Inv X pins σ H s):s.heap.FunFrames X.base X.outer:=by
 have all: ∀ (l:List Env),(∀ b∈frs l,b∈X.fs)->X.s₀.heap.FunFrames X.base l->s.heap.FunFrames X.base l:=by
  intro l
  induction l with
  | nil=>intro _ _;trivial
  | cons env r ih=>
   intro hs hl
   obtain⟨hk,⟨L,o,hf,hn,ho,hd⟩,hr⟩:=hl
   have hL:L∈X.fs:=hs L (by unfold frs;rw [List.filterMap_cons,hf];exact List.mem_cons_self)
   obtain⟨sl,e⟩:=I.base.slot L o ho (I.ok.frf L hL) hL fun z=>I.ok.exfs L z hL
   exact⟨hk,⟨L,_,hf,hn,e,hd⟩,ih (fun b hb=>hs b (by unfold frs;rw [List.filterMap_cons,hf];exact List.mem_cons_of_mem _ hb)) hr⟩
 exact all X.outer (fun _ hb=>hb) I.ok.funs
theorem Inv.stack (I:Inv X pins σ H s):s.heap.FunFrames X.base X.stack:=by
 rcases I.ok.stk with e | ⟨e,hf⟩
 ·rw [e];exact I.funs
 ·rw [e]
  obtain⟨m,hn,_⟩:=I.loc
  refine .cons (by rw [I.ok.kind];decide) hf hn ?_ I.funs
  exact Heap.get?_none_of_le (Nat.le_trans I.ok.bsz I.ok.above)
theorem Inv.stkSub (I:Inv X pins σ H s): ∀ b∈frs X.stack,b∈X.env.locals::X.fs:=fun b hb=>by
 rcases I.ok.stk with e | ⟨e,hf⟩
 ·rw [e] at hb;exact List.mem_cons_of_mem _ hb
 ·rw [e] at hb
  unfold frs at hb
  rw [List.filterMap_cons,hf] at hb
  exact hb
theorem Inv.stkFree (I:Inv X pins σ H s): ∀ b∈frs X.stack,H b=none:=fun b hb=>by
 rcases aq.mp (I.stkSub b hb) with e | hb
 ·rw [e];exact I.free
 ·obtain⟨_,o,ho,_⟩:=I.ok.funs.mem hb
  exact I.base.free b o ho (I.ok.frf b hb) fun z=>I.ok.exfs b z hb
theorem Inv.step {g':Array GenState} {t':Nat} {d':Drawn} {ch:List Addr} (I:Inv X pins σ H s)
  (hch: ∀ b∈ch,(b∈X.ex\/X.s₀.heap.objs.size<=b)/\b≠X.env.locals/\(∀ x c,X.env.cells.lookup x=some c->c≠b)/\ ∀ p∈X.pn++pins,p.1≠b)
  (keep: ∀ b o,b≠X.env.locals->b∉X.fs->b∉ch->s.heap.get? b=some o->H b=none->h'.get? b=some o)
  (slot: ∀ b o,b≠X.env.locals->b∈X.fs->b∉ch->s.heap.get? b=some o->H b=none-> ∃ sl,h'.get? b=some { o with slots:=sl }) (free: ∀ b o,b∉ch->s.heap.get? b=some o->H b=none->H' b=none)
  (there: ∀ b o,b∉ch->s.heap.get? b=some o-> ∃ o',h'.get? b=some o')
  (tups: ∀ b xs,H b=some (.tup xs)->H' b=some (.tup xs)) (frzs: ∀ b o u,H b=some (.frz o u)->H' b=some (.frz o u)) (tbls: ∀ b ps,H b=some (.tbl ps)-> ∃ more,H' b=some (.tbl (ps++more)))
  (ns: ∀ m,s.heap.Ns X.env.locals m->h'.Ns X.env.locals m) (hok:HOk X.prog X.w H' h') (hg:AllBare g'):
  Inv X pins σ H' { s with heap:=h',gens:=g',drawn:=d',toks:=t' }:=by
 have neL: ∀ b o,X.s₀.heap.get? b=some o->b≠X.env.locals:=fun b o e=>bg (bf (ah e) I.ok.above)
 have neC: ∀ b o,X.s₀.heap.get? b=some o->b∉X.ex->b∉ch:=fun b o e hx hb=>by
  rcases(hch b hb).1 with z | z
  ·exact hx z
  ·exact absurd (bf (ah e) z) (Nat.lt_irrefl _)
 have cellK: ∀ x c,X.env.cells.lookup x=some c-> ∀ v,s.heap.IsCell c v->h'.IsCell c v:=fun x c e v ⟨o,ho,hd⟩=>by
  have nch:c∉ch:=fun z=>(hch c z).2.2.1 x c e rfl
  by_cases hc:c∈X.fs
  ·obtain⟨sl,q⟩:=slot c o (I.cne x c e) hc nch ho (I.freeC x c e)
   exact⟨_,q,hd⟩
  ·exact⟨o,keep c o (I.cne x c e) hc nch ho (I.freeC x c e),hd⟩
 refine⟨I.ok,I.os,hg,⟨fun b o e n hb hx=> ?_,fun b o e n hb hx=> ?_,fun b o e n hx=> ?_,fun b o e hx=> ?_,fun b xs e=>tups b xs (I.base.tups b xs e),fun b o xs e=>frzs b o xs (I.base.frzs b o xs e),fun b ps e=> ?_⟩, ?_,fun x c e=> ?_, ?_,fun x c e=> ?_,fun p hp=> ?_,hok,I.len⟩
 ·exact keep b o (neL b o e) hb (neC b o e hx) (I.base.keep b o e n hb hx) (I.base.free b o e n hx)
 ·obtain⟨sl,e1⟩:=I.base.slot b o e n hb hx
  obtain⟨sl',e2⟩:=slot b _ (neL b o e) hb (neC b o e hx) e1 (I.base.free b o e n hx)
  exact⟨sl',e2⟩
 ·obtain⟨o',e1⟩:=I.base.there b o e hx
  exact free b o' (neC b o e hx) e1 (I.base.free b o e n hx)
 ·obtain⟨o',e1⟩:=I.base.there b o e hx
  exact there b o' (neC b o e hx) e1
 ·obtain⟨m1,e1⟩:=I.base.tbls b ps e
  obtain⟨m2,e2⟩:=tbls b _ e1
  exact⟨m1++m2,by rw [e2,Array.append_assoc]⟩
 ·obtain⟨m,hn,hl⟩:=I.loc
  refine⟨m,ns m hn,fun i x v e1 e2 e3=> ?_⟩
  obtain⟨u,r,l⟩:=hl i x v e1 e2 e3
  refine⟨u,r, ?_⟩
  rcases l with l | ⟨k,c,e,z⟩
  ·exact .inl l
  ·exact .inr ⟨k,c,e,cellK x c e _ z⟩
 ·obtain⟨v,z⟩:=I.cell x c e
  exact⟨v,cellK x c e v z⟩
 ·obtain⟨m,⟨o,_,_,ho,_⟩,_⟩:=I.loc
  exact free _ o (fun z=>(hch _ z).2.1 rfl) ho I.free
 ·obtain⟨v,o,ho,hd⟩:=I.cell x c e
  exact free c o (fun z=>(hch c z).2.2.1 x c e rfl) ho (I.freeC x c e)
 ·obtain⟨e,n,ne,nf,d⟩:=I.pin p hp
  have nch:p.1∉ch:=fun z=>(hch p.1 z).2.2.2 p hp rfl
  exact⟨keep p.1 p.2 ne nf nch e n,free p.1 p.2 nch e n,ne,nf,d⟩
theorem Inv.un {t':Nat} (I:Inv X pins σ H s) (u:Un X.fs [] H H' s.heap h') (hok:HOk X.prog X.w H' h'):Inv X pins σ H' { s with heap:=h',toks:=t' }:=by
 obtain⟨m,⟨o,es,ep,ho,r⟩,_⟩:=id I.loc
 obtain⟨sl,hL⟩:=u.any ho I.free (by simp)
 exact I.step (g':=s.gens) (d':=s.drawn) (ch:=[]) (fun _ z=>nomatch z) (fun b o _ hb _ e n=>u.keep b o e n hb (by simp)) (fun b o _ hb _ e n=>u.slot b o e n hb (by simp)) (fun b o _ e n=>u.free b o e n (by simp)) (fun b o _ e=>u.there b o e (by simp)) u.tups u.frzs u.tbls (fun m' hm=>by
  obtain⟨o',es',ep',ho',r'⟩:=hm
  rw [ho] at ho';cases ho'
  exact⟨_,es',ep',hL,r'⟩) hok I.bare
theorem Inv.call {g':Array GenState} {t':Nat} {d':Drawn} {ch:List Addr} (I:Inv X pins σ H s) (u:Un (frs X.stack) ch H H' s.heap h') (hok:HOk X.prog X.w H' h') (hg:AllBare g')
  (hch: ∀ b∈ch,(b∈X.ex\/X.s₀.heap.objs.size<=b)/\b≠X.env.locals/\(∀ x c,X.env.cells.lookup x=some c->c≠b)/\ ∀ p∈X.pn++pins,p.1≠b):
  Inv X pins σ H' { s with heap:=h',gens:=g',drawn:=d',toks:=t' }:=by
 obtain⟨m,⟨o,es,ep,ho,r⟩,_⟩:=id I.loc
 obtain⟨sl,hL⟩:=u.any ho I.free fun z=>(hch _ z).2.1 rfl
 exact I.step (ch:=ch) hch (fun b o hL hb hc e n=>u.keep b o e n (fun z=>(aq.mp (I.stkSub b z)).elim hL hb) hc) (fun b o _ _ hc e n=>u.any e n hc) (fun b o hc e n=>u.free b o e n hc) (fun b o hc e=>u.there b o e hc) u.tups u.frzs u.tbls (fun m' hm=>by
  obtain⟨o',es',ep',ho',r'⟩:=hm
  rw [ho] at ho';cases ho'
  exact⟨_,es',ep',hL,r'⟩) hok hg
theorem Inv.turned {t':Nat} {it:Addr} (I:Inv X pins σ H s) (k: ∀ b o,b≠it->s.heap.get? b=some o->h'.get? b=some o) (hn:H it=none) (hL:it≠X.env.locals)
  (h1:it∈X.ex\/X.s₀.heap.objs.size<=it) (h2: ∀ x c,X.env.cells.lookup x=some c->c≠it) (h3: ∀ p∈X.pn++pins,p.1≠it):Inv X pins σ H { s with heap:=h',toks:=t' }:=by
 have nit: ∀ b u,H b=some u->b≠it:=fun b u e z=>by rw [z,hn] at e;cases e
 refine I.step (g':=s.gens) (d':=s.drawn) (ch:=[it]) (fun b hb=> ?_) (fun b o _ _ hc e _=>k b o (fun z=>hc (by simp [z])) e) (fun b o _ _ hc e _=>⟨o.slots,k b o (fun z=>hc (by simp [z])) e⟩) (fun _ _ _ _ n=>n)
  (fun b o hc e=>⟨o,k b o (fun z=>hc (by simp [z])) e⟩) (fun _ _ e=>e) (fun _ _ _ e=>e) (fun b ps e=>⟨#[],by rw [e];simp⟩) (fun m hm=> ?_) (fun b u e=> ?_) I.bare
 ·have e:b=it:=by simpa using hb
  subst e
  exact⟨h1,hL,h2,h3⟩
 ·obtain⟨o,es,ep,ho,r⟩:=hm
  exact⟨o,es,ep,k _ o (Ne.symm hL) ho,r⟩
 ·refine(I.hok b u e).stay (fun c v hc q=>k c v ?_ q) (fun _ q=>q) fun _ _ q=>q
  rcases hc with z | z
  ·rw [z];exact nit b u e
  ·exact nit c _ z
theorem Inv.tok (I:Inv X pins σ H s) (t:Nat):Inv X pins σ H { s with toks:=t }:=I.un (h':=s.heap) (t':=t) Un.refl I.hok
theorem Inv.kept {t':Nat} (I:Inv X pins σ H s) (k: ∀ b u,s.heap.get? b=some u->h'.get? b=some u):Inv X pins σ H { s with heap:=h',toks:=t' }:=I.un (Un.kept k) (I.hok.kept k)
theorem Inv.laid {a:Addr} {o:HO} {t':Nat} (I:Inv X pins σ H s) (k: ∀ b u,s.heap.get? b=some u->h'.get? b=some u) (hp:s.heap.objs.size<=a) (new:ObjOk X.prog X.w (upd H a o) h' a o):
  Inv X pins σ (upd H a o) { s with heap:=h',toks:=t' }:=I.un (Un.laid k hp (I.hok.fresh hp)) (I.hok.laid k hp new)
theorem Inv.write {x e:Addr} {o:HO} {t':Nat} (I:Inv X pins σ H s) (mu:Mut (H x)) (he:e=x\/H e=some (.own x)) (k: ∀ b u,b≠e->s.heap.get? b=some u->h'.get? b=some u) (heo: ∃ u,h'.get? e=some u)
  (new:ObjOk X.prog X.w (upd H x o) h' x o):Inv X pins σ (upd H x o) { s with heap:=h',toks:=t' }:=I.un (Un.write mu he k heo) (I.hok.write mu he k heo new)
theorem Inv.pins_of {pins':List (Addr×Obj)} (I:Inv X pins σ H s) (h: ∀ p∈pins',s.heap.get? p.1=some p.2/\H p.1=none/\p.1≠X.env.locals/\p.1∉X.fs/\ ∀ v,p.2.data≠ .cell v):Inv X pins' σ H s:=
 ⟨I.ok,I.os,I.bare,I.base,I.loc,I.cell,I.free,I.freeC,fun p hp=>(List.mem_append.mp hp).elim (fun z=>I.pin p (List.mem_append_left _ z)) (h p),I.hok,I.len⟩
theorem nK {N:List Str} (hN:N.Nodup) {i j:Nat} {x:Str} (a:N[i]? =some x) (b:N[j]? =some x):i=j:=by
 obtain⟨h1,e1⟩:=aw.mp a
 obtain⟨h2,e2⟩:=aw.mp b
 exact(List.getElem_inj hN).mp (e1.trans e2.symm)
theorem pA {M:Model} {A:Around} {E:Value->Shared->Prop} {i:Nat} {x:Str} {v:V} {u:Value} {Q:Unit->Shared->Prop} (I:Inv X pins σ H s) (hN:X.N.Nodup) (hi:X.N[i]? =some x) (hx:Loc X.env.scope x) (r:b9 v u)
  (h: ∀ s',Inv X pins (σ.set i (some v)) H s'->(∃ a,Heap.SameBut a s.heap s'.heap/\(a=X.env.locals\/X.env.cells.lookup x=some a))->Q () s') (hf:X.fn x=true\/X.env.scope.names.lookup x=some .local:=by first | exact .inl rfl | exact .inr rfl | assumption):wpAny M A (storeName X.env x u) Q E s:=by
 obtain⟨m,hn,hl⟩:=id I.loc
 have hcls:(X.env.scope.kind== .class||(X.env.scope.kind== .module&&X.env.locals != X.env.globals))=false:=by rw [I.ok.kind];rfl
 have hiσ:i<σ.length:=by rw [I.len];exact(aw.mp hi).1
 have cne:=I.cne
 have tracked: ∀ {a:Addr} {h':Heap},(∃ o,s.heap.get? a=some o/\H a=none)->Heap.SameBut a s.heap h'->HOk X.prog X.w H h':=fun {a h'} ha hs b ob e=>by
  obtain⟨_,_,hfree⟩:=ha
  refine(I.hok b ob e).stay (fun c w' hc q=>(hs.2 c ?_).trans q) (fun _ q=>q) fun _ _ q=>q
  rintro rfl
  rcases hc with rfl | hc
  ·rw [hfree] at e;cases e
  ·rw [hfree] at hc;cases hc
 rcases hx with hk | hk
 ·refine wpAny_storeName_local hk hn (fun h' hn' hs=> ?_) hcls
  obtain⟨oL,_,_,hoL,_⟩:=id hn
  refine h _ ⟨I.ok,I.os,I.bare,⟨fun b o e n hb hx=> ?_,fun b o e n hb hx=> ?_,I.base.free,fun b o e hx=> ?_,I.base.tups,I.base.frzs,I.base.tbls⟩,⟨_,hn',fun j y v' e1 e2 e3=> ?_⟩,fun y c e=> ?_,I.free,I.freeC,fun p hp=> ?_,tracked ⟨oL,hoL,I.free⟩ hs,by simpa using I.len⟩ ⟨_,hs, .inl rfl⟩
  ·exact(hs.2 b (bg (bf (ah e) I.ok.above))).trans (I.base.keep b o e n hb hx)
  ·obtain⟨sl,e1⟩:=I.base.slot b o e n hb hx
   exact⟨sl,(hs.2 b (bg (bf (ah e) I.ok.above))).trans e1⟩
  ·obtain⟨o',e1⟩:=I.base.there b o e hx
   exact⟨o',(hs.2 b (bg (bf (ah e) I.ok.above))).trans e1⟩
  ·by_cases hj:j=i
   ·subst hj
    rw [hi] at e1;cases e1
    rw [bh hiσ] at e2
    cases e2
    exact⟨u,r, .inl ⟨hk,by simp⟩⟩
   ·rw [az (Ne.symm hj)] at e2
    obtain⟨u',r',q⟩:=hl j y v' e1 e2 e3
    refine⟨u',r', ?_⟩
    rcases q with ⟨k,e⟩ | ⟨k,c,e,z⟩
    ·refine .inl ⟨k, ?_⟩
     have:y≠x:=fun e=>hj (nK hN e1 (e▸hi))
     simp [this,e]
    ·exact .inr ⟨k,c,e,z.sameBut hs (cne y c e)⟩
  ·obtain⟨w',z⟩:=I.cell y c e
   exact⟨w',z.sameBut hs (cne y c e)⟩
  ·obtain⟨e,n,ne,nf,d⟩:=I.pin p hp
   exact⟨(hs.2 p.1 ne).trans e,n,ne,nf,d⟩
 ·have hfn:X.fn x=true:=by
   rcases hf with z | z
   ·exact z
   ·rw [z] at hk;cases hk
  obtain⟨c,hc⟩:=I.ok.has x (.inl hk)
  obtain⟨w',z⟩:=I.cell x c hc
  refine wpAny_storeName_cell I.ok.kind hk hc z (fun h' hc' hs=> ?_)
  obtain⟨oc,hoc,hocd⟩:=id z
  refine h { s with heap:=h' } ⟨I.ok,I.os,I.bare,⟨fun b o e n hb hx=> ?_,fun b o e n hb hx=> ?_,I.base.free,fun b o e hx=> ?_,I.base.tups,I.base.frzs,I.base.tbls⟩,⟨m,hn.sameBut hs (Ne.symm (cne x c hc)),fun j y v' e1 e2 e3=> ?_⟩,fun y c' e=> ?_,I.free,I.freeC,fun p hp=> ?_,tracked ⟨oc,hoc,I.freeC x c hc⟩ hs,by simpa using I.len⟩ ⟨c,hs, .inr hc⟩
  ·exact(hs.2 b (bg (bf (ah e) (I.ok.cab x c hfn hc)))).trans (I.base.keep b o e n hb hx)
  ·obtain⟨sl,e1⟩:=I.base.slot b o e n hb hx
   exact⟨sl,(hs.2 b (bg (bf (ah e) (I.ok.cab x c hfn hc)))).trans e1⟩
  ·obtain⟨o',e1⟩:=I.base.there b o e hx
   exact⟨o',(hs.2 b (bg (bf (ah e) (I.ok.cab x c hfn hc)))).trans e1⟩
  ·by_cases hj:j=i
   ·subst hj
    rw [hi] at e1;cases e1
    rw [bh hiσ] at e2
    cases e2
    exact⟨u,r, .inr ⟨.inl hk,c,hc,hc'⟩⟩
   ·rw [az (Ne.symm hj)] at e2
    obtain⟨u',r',q⟩:=hl j y v' e1 e2 e3
    refine⟨u',r', ?_⟩
    rcases q with q | ⟨k,c',e,z'⟩
    ·exact .inl q
    ·refine .inr ⟨k,c',e,z'.sameBut hs ?_⟩
     rintro rfl
     exact hj (nK hN e1 (I.ok.inj _ _ _ e hc▸hi))
  ·by_cases hcc:c'=c
   ·subst hcc;exact⟨_,hc'⟩
   ·obtain⟨w2,z2⟩:=I.cell y c' e
    exact⟨w2,z2.sameBut hs hcc⟩
  ·obtain⟨e,n,ne,nf,d⟩:=I.pin p hp
   refine⟨(hs.2 p.1 ?_).trans e,n,ne,nf,d⟩
   intro q
   rw [q,hoc] at e
   have q':oc=p.2:=Option.some.inj e
   exact d w' (by rw [<-q'];exact hocd)
theorem iI {M:Model} {A:Around} {E:Value->Shared->Prop} {i:Nat} {x:Str} {v:V} {u:Value} {Q:Unit->Shared->Prop} (I:Inv X pins σ H s) (hN:X.N.Nodup) (hi:X.N[i]? =some x) (hx:Loc X.env.scope x) (r:b9 v u)
  (h: ∀ s',Inv X pins (σ.set i (some v)) H s'->Q () s') (hf:X.fn x=true\/X.env.scope.names.lookup x=some .local:=by first | exact .inl rfl | exact .inr rfl | assumption):wpAny M A (storeName X.env x u) Q E s:=
 pA I hN hi hx r (fun s' I' _=>h s' I') hf
theorem Inv.call' {s':Shared} {ch:List Addr} (I:Inv X pins σ H s) (ho:s'.os=s.os) (u:Un (frs X.stack) ch H H' s.heap s'.heap) (hok:HOk X.prog X.w H' s'.heap) (hg:AllBare s'.gens)
  (hch: ∀ b∈ch,(b∈X.ex\/X.s₀.heap.objs.size<=b)/\b≠X.env.locals/\(∀ x c,X.env.cells.lookup x=some c->c≠b)/\ ∀ p∈X.pn++pins,p.1≠b):Inv X pins σ H' s':=by
 obtain⟨h',g',d',t',o'⟩:=s'
 have e:o'=s.os:=ho
 subst e
 exact I.call (g':=g') (t':=t') (d':=d') u hok hg hch
end
abbrev XK:=Value->Option Addr->Hp->Prop
abbrev St:=List (Option V)
abbrev VK:=V->Hp->Prop
abbrev TE:=St->Hp->VK->Prop
abbrev TT:=St->Hp->(Bool->Hp->Prop)->Prop
abbrev TA:=St->Hp->(List V->Hp->Prop)->Prop
structure Ends where
 nx:St->Hp->Prop
 rt:VK
 bk:St->Hp->Prop:=fun _ _=>False
 ct:St->Hp->Prop:=fun _ _=>False
abbrev TS:=Ends->St->Hp->Prop
def EP (X:Cx) (pins:List (Addr×Obj)) (σ:St) (Q:VK) (u:Value) (s':Shared):Prop:= ∃ v H',Inv X pins σ H' s'/\b9 v u/\Q v H'
def TP (X:Cx) (pins:List (Addr×Obj)) (σ:St) (Q:Bool->Hp->Prop) (b:Bool) (s':Shared):Prop:= ∃ H',Inv X pins σ H' s'/\Q b H'
def AP (X:Cx) (pins:List (Addr×Obj)) (σ:St) (Q:List V->Hp->Prop) (us:List Value) (s':Shared):Prop:= ∃ vs H',Inv X pins σ H' s'/\bI vs us/\Q vs H'
def SP (X:Cx) (pins:List (Addr×Obj)) (D:Ends) (f:Flow) (s':Shared):Prop:=
 match f with
 | .next=> ∃ σ' H',Inv X pins σ' H' s'/\D.nx σ' H'
 | .brk=> ∃ σ' H',Inv X pins σ' H' s'/\D.bk σ' H'
 | .cont=> ∃ σ' H',Inv X pins σ' H' s'/\D.ct σ' H'
 | .ret u=> ∃ v σ' H',Inv X pins σ' H' s'/\b9 v u/\D.rt v H'
def PE (X:Cx) (e:Expr) (t:TE):Prop:=
 ∀ (pins:List (Addr×Obj)) (s:Shared) (σ:St) (H:Hp) (Q:VK),Inv X pins σ H s->t σ H Q->wpAny (model X.prog X.w) X.A (eval e X.env) (EP X pins σ Q) X.xe s
def PT (X:Cx) (e:Expr) (t:TT):Prop:=
 ∀ (pins:List (Addr×Obj)) (s:Shared) (σ:St) (H:Hp) (Q:Bool->Hp->Prop),Inv X pins σ H s->t σ H Q->wpAny (model X.prog X.w) X.A (isTrue e X.env (eval e X.env)) (TP X pins σ Q) X.xe s
def PW (X:Cx) (e:Expr) (t:TT):Prop:=
 ∀ (whole:Sem Value) (pins:List (Addr×Obj)) (s:Shared) (σ:St) (H:Hp) (Q:Bool->Hp->Prop),Inv X pins σ H s->t σ H Q->wpAny (model X.prog X.w) X.A (isTrue e X.env whole) (TP X pins σ Q) X.xe s
def PA (X:Cx) (es:List Expr) (t:TA):Prop:=
 ∀ (pos:Pos) (pins:List (Addr×Obj)) (s:Shared) (σ:St) (H:Hp) (Q:List V->Hp->Prop),Inv X pins σ H s->t σ H Q->wpAny (model X.prog X.w) X.A (spliced (backTo pos (starEach es X.env))) (AP X pins σ Q) X.xe s
def PS (X:Cx) (st:Stmt) (t:TS):Prop:=
 ∀ (pins:List (Addr×Obj)) (s:Shared) (σ:St) (H:Hp) (D:Ends),Inv X pins σ H s->t D σ H->wpAny (model X.prog X.w) X.A (exec st X.env) (SP X pins D) X.xe s
def PSs (X:Cx) (st:List Stmt) (t:TS):Prop:=
 ∀ (pins:List (Addr×Obj)) (s:Shared) (σ:St) (H:Hp) (D:Ends),Inv X pins σ H s->t D σ H->wpAny (model X.prog X.w) X.A (execs st X.env) (SP X pins D) X.xe s
theorem thn {α:Type} {t:Sem α} {Q Q':α->Shared->Prop} {M:Model} {A:Around} {E:Value->Shared->Prop} {s:Shared} (h:wpAny M A t Q E s) (hQ: ∀ a s,Q a s->Q' a s):wpAny M A t Q' E s:=wpAny_mono h hQ fun _ _ x=>x
section
variable {X:Cx}
noncomputable def aO8 (i:Nat):TE:=fun σ H Q=> ∃ v,σ[i]? =some (some v)/\Q v H
noncomputable def tC (v:V):TE:=fun _ H Q=>Q v H
theorem gT {i:Nat} {x:Str} {pos:Pos} (hN:X.N[i]? =some x) (hv:Vis X.env.scope x) (hd:(x==("__debug__":Str))=false:=by decide) (hcd:(x==("__classdict__":Str))=false:=by decide):PE X (.Name x pos) (aO8 i):=by
 intro pins s σ H Q I h
 obtain⟨v,e,h⟩:=h
 obtain⟨m,hn,hl⟩:=I.loc
 obtain⟨u,r,l⟩:=hl i x v hN e hv
 have fin:EP X pins σ Q u s:=⟨v,H,I,r,h⟩
 rcases l with ⟨hk,hm⟩ | ⟨hk,c,hc,hcell⟩
 ·exact wpAny_Name (wpAny_loadName_local I.ok.kind hk hn hm fin) hd
 ·rcases hk with hk | hk
  ·exact wpAny_Name (wpAny_loadName_cell I.ok.kind hk hc hcell fin) hd
  ·exact wpAny_Name (wpAny_loadName_free I.ok.kind hk hc hcell fin hcd) hd
theorem aIv {i j pos}:PE X (.Constant (.int i) j pos) (tC (.int i)):=fun _ _ _ H _ I h=>wpAny_Constant_int ⟨.int i,H,I.tok _,⟨_,rfl⟩,h⟩
theorem aMk {b j pos}:PE X (.Constant (.bool b) j pos) (tC (.bl b)):=fun _ _ _ H _ I h=>Constant_bool ⟨.bl b,H,I,rfl,h⟩
theorem aIw {j pos}:PE X (.Constant .none j pos) (tC .non):=fun _ _ _ H _ I h=>Constant_none ⟨.non,H,I,rfl,h⟩
theorem aIx {x j pos}:PE X (.Constant (.str x) j pos) (tC (.str x)):=fun _ _ _ H _ I h=>Calls.Constant_str ⟨.str x,H,I.tok _,⟨_,rfl⟩,h⟩
def Gl (X:Cx) (x:Str):Prop:=X.env.kindOf x=some .globalImplicit
theorem nL {E:Value->Shared->Prop} {pins:List (Addr×Obj)} {s:Shared} {σ:St} {H:Hp} {x:Str} {u:Value} {pos:Pos} {Q:Value->Shared->Prop} (I:Inv X pins σ H s) (hg:Gl X x) (hm:X.mg x=some u) (h:Q u s)
  (hd:(x==("__debug__":Str))=false:=by decide):wpAny (model X.prog X.w) X.A (eval (.Name x pos) X.env) Q E s:=
 Calls.Name_function_global I.ok.kind hg (Calls.loadGlobal_global (by rw [I.ok.glob];exact I.mod.glob.keeps I.bk) hm h) hd
theorem gU {E:Value->Shared->Prop} {pins:List (Addr×Obj)} {s:Shared} {σ:St} {H:Hp} {x:Str} {u:Value} {pos:Pos} {Q:Value->Shared->Prop} (I:Inv X pins σ H s) (hg:Gl X x) (hm:X.mg x=none) (hv:bootBuiltins x=some u) (h:Q u s)
  (hn:x≠"__name__":=by decide) (hd:(x==("__debug__":Str))=false:=by decide):wpAny (model X.prog X.w) X.A (eval (.Name x pos) X.env) Q E s:=by
 obtain⟨mb,h1,h2⟩:=I.mod.blt
 exact Calls.Name_function_global I.ok.kind hg (Calls.loadGlobal_builtin (by rw [I.ok.glob];exact I.mod.glob.keeps I.bk) hm (by rw [I.ok.blt];exact h1.keeps I.bk) ((h2 x hn).trans hv) h) hd
theorem aE5 {x:Str} {v:V} {u:Value} {pos:Pos} (hg:Gl X x) (hm:X.mg x=some u) (r:b9 v u) (hd:(x==("__debug__":Str))=false:=by decide):PE X (.Name x pos) (tC v):=
 fun _ _ _ H _ I h=>nL I hg hm ⟨v,H,I,r,h⟩ hd
variable {a b:Expr} {ta tb:TE} {pos:Pos}
noncomputable def tB (t:TE):TT:=fun σ H Q=>t σ H fun x H1=> ∃ c,x= .bl c/\Q c H1
theorem aIy {e:Expr} {t:TE} (h:PE X e t) (he: ∀ whole,isTrue e X.env whole=(do let v<-whole;standAt e.pos;holding [v] (truthy v)):=by intro _;rfl):PT X e (tB t):=by
 intro pins s σ H Q I hw
 refine isTrue_plain (thn (h pins s σ H _ I hw) fun v s1 ⟨x,H1,I1,r1,q1⟩=> ?_) (he _)
 obtain⟨d,rfl,q⟩:=q1
 cases r1
 exact wpAny_truthy_bool ⟨H1,I1,q⟩
variable {tA tB':TT} {d7:List Expr}
noncomputable def aOi (t u:TT):TT:=fun σ H Q=>t σ H fun c H1=>if c=true then u σ H1 Q else Q false H1
noncomputable def tOr (t u:TT):TT:=fun σ H Q=>t σ H fun c H1=>if c=true then Q true H1 else u σ H1 Q
noncomputable def aOj (t:TT):TT:=fun σ H Q=>t σ H fun c H1=>Q (!c) H1
theorem pw_and1 (ha:PT X a tA):PW X (.BoolOp .And [a] pos) tA:=by
 intro wh pins s σ H Q I h
 refine isTrue_and (thn (ha pins s σ H Q I h) fun c s1 e=> ?_)
 cases c with
 | true=>exact isTrue_and_nil e
 | false=>exact e
theorem pw_or1 (ha:PT X a tA):PW X (.BoolOp .Or [a] pos) tA:=by
 intro wh pins s σ H Q I h
 refine isTrue_or (thn (ha pins s σ H Q I h) fun c s1 e=> ?_)
 cases c with
 | false=>exact isTrue_or_nil e
 | true=>exact e
theorem pw_and (ha:PT X a tA) (hb:PW X (.BoolOp .And (b::d7) pos) tB'):PW X (.BoolOp .And (a::b::d7) pos) (aOi tA tB'):=by
 intro wh pins s σ H Q I h
 refine isTrue_and (thn (ha pins s σ H _ I h) fun c s1 hz_=> ?_)
 obtain⟨H1,I1,q1⟩:=hz_
 cases c with
 | true=>exact hb wh pins s1 σ H1 Q I1 q1
 | false=>exact⟨H1,I1,q1⟩
theorem pw_or (ha:PT X a tA) (hb:PW X (.BoolOp .Or (b::d7) pos) tB'):PW X (.BoolOp .Or (a::b::d7) pos) (tOr tA tB'):=by
 intro wh pins s σ H Q I h
 refine isTrue_or (thn (ha pins s σ H _ I h) fun c s1 hz_=> ?_)
 obtain⟨H1,I1,q1⟩:=hz_
 cases c with
 | true=>exact⟨H1,I1,q1⟩
 | false=>exact hb wh pins s1 σ H1 Q I1 q1
theorem aIz (ha:PT X a tA):PT X (.UnaryOp .Not a pos) (aOj tA):=by
 intro pins s σ H Q I h
 exact isTrue_not (ha pins s σ H (fun c H1=>Q (!c) H1) I h)
noncomputable def aI0 (ta tb:TE):TE:=fun σ H Q=>ta σ H fun x H1=> ∃ c,x= .bl c/\if c=true then tb σ H1 Q else Q (.bl false) H1
noncomputable def aOk (ta tb:TE):TE:=fun σ H Q=>ta σ H fun x H1=> ∃ c,x= .bl c/\if c=true then Q (.bl true) H1 else tb σ H1 Q
noncomputable def aMl (ta:TE):TE:=fun σ H Q=>ta σ H fun x H1=> ∃ c,x= .bl c/\Q (.bl (!c)) H1
theorem aI1 {op} {t:TE} (h:PE X a t):PE X (.BoolOp op [a] pos) t:=fun pins s σ H Q I hw=>BoolOp_one (h pins s σ H Q I hw)
theorem aI2 (ha:PE X a ta) (hb:PE X (.BoolOp .And (b::d7) pos) tb):PE X (.BoolOp .And (a::b::d7) pos) (aI0 ta tb):=by
 intro pins s σ H Q I h
 refine BoolOp_and (thn (ha pins s σ H _ I h) fun v s1 hz_=> ?_)
 obtain⟨x,H1,I1,r1,q1⟩:=hz_
 obtain⟨c,rfl,q1⟩:=q1
 cases r1
 refine wpAny_truthy_bool ?_
 cases c with
 | true=>exact hb pins s1 σ H1 Q I1 q1
 | false=>exact⟨.bl false,H1,I1,rfl,q1⟩
theorem aMm (ha:PE X a ta) (hb:PE X (.BoolOp .Or (b::d7) pos) tb):PE X (.BoolOp .Or (a::b::d7) pos) (aOk ta tb):=by
 intro pins s σ H Q I h
 refine BoolOp_or (thn (ha pins s σ H _ I h) fun v s1 hz_=> ?_)
 obtain⟨x,H1,I1,r1,q1⟩:=hz_
 obtain⟨c,rfl,q1⟩:=q1
 cases r1
 refine wpAny_truthy_bool ?_
 cases c with
 | false=>exact hb pins s1 σ H1 Q I1 q1
 | true=>exact⟨.bl true,H1,I1,rfl,q1⟩
theorem aI3 (ha:PE X a ta):PE X (.UnaryOp .Not a pos) (aMl ta):=by
 intro pins s σ H Q I h
 refine UnaryOp_ (thn (ha pins s σ H _ I h) fun v s1 hz_=> ?_)
 obtain⟨x,H1,I1,r1,q1⟩:=hz_
 obtain⟨c,rfl,q1⟩:=q1
 cases r1
 exact not_of (wpAny_truthy_bool ⟨.bl (!c),H1,I1,rfl,q1⟩)
noncomputable def tIf (t:TT) (ta tb:TE):TE:=fun σ H Q=>t σ H fun c H1=>if c=true then ta σ H1 Q else tb σ H1 Q
theorem aA1 {c:Expr} (hc:PT X c tA) (ha:PE X a ta) (hb:PE X b tb):PE X (.IfExp c a b pos) (tIf tA ta tb):=by
 intro pins s σ H Q I h
 refine wpAny_IfExp (thn (hc pins s σ H _ I h) fun d s1 hz_=> ?_)
 obtain⟨H1,I1,q1⟩:=hz_
 cases d with
 | true=>exact ha pins s1 σ H1 Q I1 q1
 | false=>exact hb pins s1 σ H1 Q I1 q1
end
def SqL (K:PySem.W.Frag) (H:Hp) (a:Addr) (xs:List V):Prop:=
 Rd H a (.lst xs)\/
  ∃ (o:Obj) (its:Array Value) (n:Nat),K.lookup a=some o/\o.cls= .type "list"/\o.dict=none/\o.data= .seq its n/\its.size<=sizeLine/\bI xs its.toList
def SqT (K:PySem.W.Frag) (H:Hp) (a:Addr) (xs:List V):Prop:=
 Rd H a (.tup xs)\/
  ∃ (o:Obj) (its:Array Value) (n:Nat),K.lookup a=some o/\o.cls= .type "tuple"/\o.dict=none/\o.data= .seq its n/\its.size<=sizeLine/\bI xs its.toList
noncomputable def aO9:Value->Option V
 | .none=>some .non
 | .bool b=>some (.bl b)
 | .int i _=>some (.int i)
 | .str x _=>some (.str x)
 | .bytes b _=>some (.byt b)
 | .float b _=>some (.flt b)
 | .ref a=>some (.ref a)
 | .type n=>some (.ty n)
 | _=>none
theorem b9.abs {x:V} {u:Value} (r:b9 x u):aO9 u=some x:=by
 cases x with
 | non=>cases r;rfl
 | bl _=>cases r;rfl
 | int _=>obtain⟨t,rfl⟩:=r;rfl
 | str _=>obtain⟨t,rfl⟩:=r;rfl
 | byt _=>obtain⟨t,rfl⟩:=r;rfl
 | flt _=>obtain⟨t,rfl⟩:=r;rfl
 | ref _=>cases r;rfl
 | ty _=>cases r;rfl
theorem b9.inj {x y:V} {u:Value} (r:b9 x u) (q:b9 y u):x=y:=Option.some.inj (r.abs.symm.trans q.abs)
theorem bI.inj: ∀ {xs ys:List V} {us:List Value},bI xs us->bI ys us->xs=ys
 | _,_,_, .nil, .nil=>rfl
 | _,_,_, .cons r t, .cons r' t'=>by rw [r.inj r',bI.inj t t']
section
variable {X:Cx} {pins:List (Addr×Obj)} {σ:St} {H:Hp} {s:Shared} {a:Addr} {xs ys:List V}
theorem SqL.of {K:PySem.W.Frag} (h:H a=some (.lst xs)):SqL K H a xs:= .inl (.inl h)
theorem SqT.of {K:PySem.W.Frag} (h:H a=some (.tup xs)):SqT K H a xs:= .inl (.inl h)
theorem Inv.list (I:Inv X pins σ H s) (h:SqL X.K H a xs): ∃ its:List Value,bI xs its/\PlainL s.heap a its.toArray/\xs.length<=sizeLine:=by
 rcases h with h | ⟨o,its,n,hk,hc,hd,hs,hz,r⟩
 ·obtain⟨z,its,n,r,e⟩:=h.ok I.hok
  exact⟨its,r,⟨_,n,e,rfl,rfl,rfl⟩,z⟩
 ·refine⟨its.toList,r,⟨o,n,I.kIn a o hk,hc,hd,by simpa using hs⟩, ?_⟩
  have e:=r.length
  simp only [Array.length_toList] at e
  omega
theorem Inv.tuple (I:Inv X pins σ H s) (h:SqT X.K H a xs): ∃ its:List Value,bI xs its/\IsTup s.heap a its.toArray/\xs.length<=sizeLine:=by
 rcases h with h | ⟨o,its,n,hk,hc,_,hs,hz,r⟩
 ·obtain⟨z,its,r,p,_⟩:=h.ok I.hok
  exact⟨its,r,p,z⟩
 ·refine⟨its.toList,r,⟨o,I.kIn a o hk,hc,n,by simpa using hs⟩, ?_⟩
  have e:=r.length
  simp only [Array.length_toList] at e
  omega
theorem Inv.list_inj (I:Inv X pins σ H s) (h:SqL X.K H a xs) (h':SqL X.K H a ys):xs=ys:=by
 obtain⟨its,r,⟨o,n,e,_,_,d⟩,_⟩:=I.list h
 obtain⟨its',r',⟨o',n',e',_,_,d'⟩,_⟩:=I.list h'
 rw [e] at e';cases e'
 rw [d] at d'
 injection d' with d1 _
 have:its=its':=by simpa using congrArg Array.toList d1
 subst this
 exact r.inj r'
theorem Inv.tuple_inj (I:Inv X pins σ H s) (h:SqT X.K H a xs) (h':SqT X.K H a ys):xs=ys:=by
 obtain⟨its,r,⟨o,e,_,n,d⟩,_⟩:=I.tuple h
 obtain⟨its',r',⟨o',e',_,n',d'⟩,_⟩:=I.tuple h'
 rw [e] at e';cases e'
 rw [d] at d'
 injection d' with d1 _
 have:its=its':=by simpa using congrArg Array.toList d1
 subst this
 exact r.inj r'
end
noncomputable abbrev Cx.wish (X:Cx) (E:Value->Shared->Prop):Cx:={ X with xe:=E }
section
variable {X:Cx} {pins:List (Addr×Obj)} {σ:St} {H:Hp} {s:Shared} {E:Value->Shared->Prop}
end
section
variable {X:Cx} {st:Stmt} {d7:List Stmt} {t u:TS} {e:Expr} {te:TE} {pos:Pos}
noncomputable def aI4:TS:=fun D σ H=>D.nx σ H
noncomputable def aPa (t u:TS):TS:=fun D σ H=>t { D with nx:=u D } σ H
theorem aE6:PSs X [] aI4:=fun _ _ σ H _ I h=>wpAny_execs_nil ⟨σ,H,I,h⟩
theorem aA2 (h1:PS X st t) (h2:PSs X d7 u):PSs X (st::d7) (aPa t u):=by
 intro pins s σ H D I h
 refine wpAny_execs_cons (thn (h1 pins s σ H { D with nx:=u D } I h) fun f s1 q=> ?_)
 cases f with
 | next=>
  obtain⟨σ',H',I',q⟩:=q
  exact h2 pins s1 σ' H' D I' q
 | ret v=>exact q
 | brk=>exact q
 | cont=>exact q
theorem wQ (h1:PS X st t):PSs X [st] t:=by
 intro pins s σ H D I h
 refine wpAny_execs_cons (thn (h1 pins s σ H D I h) fun f s1 q=> ?_)
 cases f with
 | next=>exact wpAny_execs_nil q
 | ret v=>exact q
 | brk=>exact q
 | cont=>exact q
noncomputable def aI5:TS:=fun D σ H=>D.bk σ H
noncomputable def aMn:TS:=fun D σ H=>D.ct σ H
theorem aE7:PS X (.Pass pos) aI4:=fun _ _ σ H _ I h=>wpAny_Pass ⟨σ,H,I,h⟩
theorem aA3:PS X (.Break pos) aI5:=fun _ _ σ H _ I h=>wpAny_Break ⟨σ,H,I,h⟩
theorem rJ:PS X (.Continue pos) aMn:=fun _ _ σ H _ I h=>wpAny_Continue ⟨σ,H,I,h⟩
theorem Inv.quiet {pins:List (Addr×Obj)} {σ:St} {H:Hp} {s:Shared} (I:Inv X pins σ H s):interactive X.env=false:=by simp [interactive,I.ok.kind]
noncomputable def aMo (te:TE):TS:=fun D σ H=>te σ H fun _ H1=>D.nx σ H1
theorem nM (he:PE X e te) (hs:swapsWith e none pos.line X.env=pure false:=by rfl):PS X (.Expr e pos) (aMo te):=by
 intro pins s σ H D I h
 exact wpAny_Expr_any (thn (he pins s σ H _ I h) fun v s1 ⟨x,H1,I1,r1,q1⟩=>⟨σ,H1,I1,q1⟩) I.quiet hs
noncomputable def aPb (te:TE):TS:=fun D σ H=>te σ H D.rt
theorem aDn (he:PE X e te):PS X (.Return (some e) pos) (aPb te):=by
 intro pins s σ H D I h
 exact wpAny_Return_some (thn (he pins s σ H _ I h) fun v s1 ⟨x,H1,I1,r1,q1⟩=>⟨x,σ,H1,I1,r1,q1⟩)
noncomputable def aMp:TS:=fun D _ H=>D.rt .non H
theorem aE8:PS X (.Return none pos) aMp:=fun _ _ σ H _ I h=>wpAny_Return_none ⟨.non,σ,H,I,rfl,h⟩
noncomputable def aPc (c:TT) (t u:TS):TS:=fun D σ H=>c σ H fun b H1=>if b=true then t D σ H1 else u D σ H1
theorem aMq {c:Expr} {a b:List Stmt} {tc:TT} (hc:PT X c tc) (ha:PSs X a t) (hb:PSs X b u):PS X (.If c a b pos) (aPc tc t u):=by
 intro pins s σ H D I h
 refine wpAny_If (thn (hc pins s σ H _ I h) fun d s1 hz_=> ?_)
 obtain⟨H1,I1,q1⟩:=hz_
 cases d with
 | true=>exact ha pins s1 σ H1 D I1 q1
 | false=>exact hb pins s1 σ H1 D I1 q1
end
abbrev TG:=V->St->Hp->(St->Hp->Prop)->Prop
abbrev TGs:=List V->St->Hp->(St->Hp->Prop)->Prop
def PG (X:Cx) (target:Expr) (t:TG):Prop:=
 ∀ (pins:List (Addr×Obj)) (s:Shared) (σ:St) (H:Hp) (v:V) (u:Value) (Q:St->Hp->Prop),Inv X pins σ H s->b9 v u->t v σ H Q->
  wpAny (model X.prog X.w) X.A (assign target X.env u) (fun _ s'=> ∃ σ' H',Inv X pins σ' H' s'/\Q σ' H') X.xe s
def PGs (X:Cx) (ts:List Expr) (t:TGs):Prop:=
 ∀ (pins:List (Addr×Obj)) (s:Shared) (σ:St) (H:Hp) (vs:List V) (us:List Value) (Q:St->Hp->Prop),Inv X pins σ H s->bI vs us->t vs σ H Q->
  wpAny (model X.prog X.w) X.A (assignInOrder ((assignEach ts X.env).map (·.2)) us) (fun _ s'=> ∃ σ' H',Inv X pins σ' H' s'/\Q σ' H') X.xe s
abbrev aMr:=V->V->V->Hp->(Hp->Prop)->Prop
def aOl (X:Cx) (t:aMr):Prop:=
 ∀ (pins:List (Addr×Obj)) (s:Shared) (σ:St) (H:Hp) (o i v:V) (ov iv u:Value) (Q:Hp->Prop),Inv X pins σ H s->b9 o ov->b9 i iv->b9 v u->t o i v H Q->
  wpAny (model X.prog X.w) X.A (setItem ov iv u) (fun _ s'=> ∃ H',Inv X pins σ H' s'/\Q H') X.xe s
section
variable {X:Cx} {pos:Pos}
noncomputable def kH (i:Nat):TG:=fun v σ H Q=>Q (σ.set i (some v)) H
theorem i7 {i:Nat} {x:Str} (hN:X.N.Nodup) (hi:X.N[i]? =some x) (hx:Loc X.env.scope x) (hf:X.fn x=true\/X.env.scope.names.lookup x=some .local:=by first | exact .inl rfl | exact .inr rfl | assumption):PG X (.Name x pos) (kH i):=by
 intro pins s σ H v u Q I r h
 exact wpAny_assign_Name (iI I hN hi hx r (fun s' I'=>⟨_,H,I',h⟩) hf)
noncomputable def aMs:TGs:=fun vs σ H Q=>vs=[]/\Q σ H
noncomputable def aE9 (t:TG) (u:TGs):TGs:=fun vs σ H Q=> ∃ v r,vs=v::r/\t v σ H fun σ' H'=>u r σ' H' Q
theorem wR:PGs X [] aMs:=by
 intro pins s σ H vs us Q I r h
 obtain⟨e,h⟩:=h
 subst e
 cases r
 exact assignInOrder_nil ⟨σ,H,I,h⟩
theorem sV {e:Expr} {es:List Expr} {t:TG} {u:TGs} (h1:PG X e t) (h2:PGs X es u)
  (hs:(assignEach (e::es) X.env).map (·.2)=assign e X.env::(assignEach es X.env).map (·.2):=by rfl):PGs X (e::es) (aE9 t u):=by
 intro pins s σ H vs us Q I r h
 obtain⟨v,vr,e1,h⟩:=h
 subst e1
 cases r with
 | cons r rr=>
  rw [hs]
  refine assignInOrder_cons (thn (h1 pins s σ H _ _ _ I r h) fun _ s1 hz_=> ?_)
  obtain⟨σ1,H1,I1,q1⟩:=hz_
  exact h2 pins s1 σ1 H1 _ _ Q I1 rr q1
noncomputable def aI6 (K:PySem.W.Frag) (n:Nat) (t:TGs):TG:=fun v σ H Q=> ∃ a xs,v= .ref a/\SqT K H a xs/\xs.length=n/\t xs σ H Q
theorem aDo {es:List Expr} {k:Nat} {t:TGs} {n:Nat} (hc:X.calm=true) (h:PGs X es t)
  (hn:(assignEach es X.env).length=n:=by rfl) (hst:(assignEach es X.env).findIdx? (·.1)=none:=by rfl):PG X (.Tuple es k pos) (aI6 X.K n t):=by
 intro pins s σ H v u Q I r hw
 obtain⟨a,xs,e1,hq,hl,hw⟩:=hw
 subst e1
 cases r
 obtain⟨its,rv,ht,hz⟩:=I.tuple hq
 refine assign_Tuple_tuple (I.ok.hd hc) ht (by simp [hn, <-hl,rv.length]) hst fun h' hx=> ?_
 have I1:Inv X pins σ H { s with heap:=h' }:=I.kept (t':=s.toks) fun b o e=>hx b o (bg (ah e)) e
 exact h pins _ σ H xs _ Q I1 (by simpa using rv) hw
noncomputable def aPd (to ti:TE) (t:aMr):TG:=fun v σ H Q=>to σ H fun o H1=>ti σ H1 fun i H2=>t o i v H2 fun H3=>Q σ H3
theorem aI7 {o i:Expr} {to ti:TE} {t:aMr} (ho:PE X o to) (hi:PE X i ti) (hs:aOl X t)
  (ha: ∀ v,assign (.Subscript o i pos) X.env v=(do
   let ov<-holding [v] (eval o X.env)
   let iv<-holding [v,ov] (eval i X.env)
   standAt pos
   holding [v,ov,iv] (setItem ov iv v)
   release [v,ov,iv] []):=by intro _;rfl):PG X (.Subscript o i pos) (aPd to ti t):=by
 intro pins s σ H v u Q I r h
 rw [ha]
 refine aa (wpAny_holding (thn (ho pins s σ H _ I h) fun ov s1 hz_=> ?_))
 obtain⟨x,H1,I1,r1,q1⟩:=hz_
 refine aa (wpAny_holding (thn (hi pins s1 σ H1 _ I1 q1) fun iv s2 hz_=> ?_))
 obtain⟨y,H2,I2,r2,q2⟩:=hz_
 refine aa (wpAny_standAt (aa (wpAny_holding (thn (hs pins s2 σ H2 x y v ov iv u _ I2 r1 r2 r q2) fun _ s3 hz_=> ?_))))
 obtain⟨H3,I3,q3⟩:=hz_
 exact wpAny_release ⟨σ,H3,I3,q3⟩
noncomputable def aIi (te:TE) (g:TG):TS:=fun D σ H=>te σ H fun x H1=>g x σ H1 D.nx
theorem aI8 {tg e:Expr} {te:TE} {g:TG} (he:PE X e te) (hg:PG X tg g) (hs:swapsWithSole [tg] e pos.line X.env=pure false:=by rfl) (hw:swappedStores [tg] e X.env=pure none:=by rfl)
  (h1:(assignEach [tg] X.env).map (·.2)=[assign tg X.env]:=by rfl):PS X (.Assign [tg] e pos) (aIi te g):=by
 intro pins s σ H D I h
 refine wpAny_Assign_stores (thn (he pins s σ H _ I h) fun v s1 ⟨x,H1,I1,r1,q1⟩=> ?_) hs hw
 rw [h1]
 exact thn (hg pins s1 σ H1 x v _ I1 r1 q1) fun _ s2 q=>q
theorem aDp {i:Nat} {x:Str} {e:Expr} {te:TE} {pos':Pos} (hN:X.N.Nodup) (hi:X.N[i]? =some x) (hx:Loc X.env.scope x) (he:PE X e te) (hs:swapsWith e (some (.Name x pos')) pos.line X.env=pure false:=by rfl) (hf:X.fn x=true\/X.env.scope.names.lookup x=some .local:=by first | exact .inl rfl | exact .inr rfl | assumption):
  PS X (.Assign [.Name x pos'] e pos) (aIi te (kH i)):=by
 intro pins s σ H D I h
 refine wpAny_Assign_Name (thn (he pins s σ H _ I h) fun v s1 ⟨y,H1,I1,r1,q1⟩=> ?_) hs
 exact iI I1 hN hi hx r1 (fun s2 I2=>⟨_,H1,I2,q1⟩) hf
end
section
variable {X:Cx} {pos:Pos}
noncomputable def aI9 (c:TT) (tb:TS):TS:=fun D σ H=> ∃ W:Nat->St->Hp->Prop,(∃ m,W m σ H)/\ ∀ m σ H,W m σ H->
 c σ H fun b H1=>if b=true then ∃ N:St->Hp->Prop,(∀ σ' H',N σ' H'-> ∃ m',m'<m/\W m' σ' H')/\tb { D with nx:=N,ct:=N,bk:=D.nx } σ H1 else D.nx σ H1
theorem aA4 {c:Expr} {body:List Stmt} {tc:TT} {tb:TS} (hp:PassesOwn (model X.prog X.w) X.A X.env X.xe) (hc:PT X c tc) (hb:PSs X body tb):PS X (.While c body [] pos) (aI9 tc tb):=by
 intro pins s σ H D I h
 obtain⟨W,⟨m0,w0⟩,turn⟩:=h
 refine wpAny_While (codeAny_whileLoop (fun n s'=> ∃ σ' H',Inv X pins σ' H' s'/\W n σ' H') ?_ m0 ⟨σ,H,I,w0⟩)
 rintro n s1 ⟨σ1,H1,I1,w1⟩
 refine wpAny_passesOwn hp (thn (hc pins s1 σ1 H1 _ I1 (turn n σ1 H1 w1)) fun b s2 hz_=> ?_)
 obtain⟨H2,I2,q2⟩:=hz_
 cases b with
 | true=>
  obtain⟨N,hN,q2⟩:=q2
  rw [if_pos rfl]
  refine wpAny_passesOwn hp (thn (hb pins s2 σ1 H2 _ I2 q2) fun f s3 q3=> ?_)
  cases f with
  | next=>
   obtain⟨σ3,H3,I3,n3⟩:=q3
   obtain⟨m',hm,w3⟩:=hN σ3 H3 n3
   exact⟨m',hm,σ3,H3,I3,w3⟩
  | cont=>
   obtain⟨σ3,H3,I3,n3⟩:=q3
   obtain⟨m',hm,w3⟩:=hN σ3 H3 n3
   exact⟨m',hm,σ3,H3,I3,w3⟩
  | brk=>exact q3
  | ret v=>exact q3
 | false=>
  rw [if_neg bd]
  exact wpAny_execs_nil ⟨σ1,H2,I2,q2⟩
end
structure It where
 go:Nat->Hp->Prop
 yld:Nat->Hp->V->Hp->Prop
 stop:Nat->Hp->Prop
def rL (X:Cx) (pins:List (Addr×Obj)) (H:Hp) (b:Addr):Prop:=
 H b=none/\b≠X.env.locals/\b∉X.fs/\(b∈X.ex\/X.s₀.heap.objs.size<=b)/\(∀ x c,X.env.cells.lookup x=some c->c≠b)/\ ∀ p∈X.pn++pins,p.1≠b
theorem Inv.fpOk {X:Cx} {pins:List (Addr×Obj)} {σ:St} {H H':Hp} {s:Shared} {b:Addr} (I:Inv X pins σ H s) (hb:s.heap.objs.size<=b) (hn:H' b=none):rL X pins H' b:=by
 refine⟨hn,Nat.ne_of_gt (bf I.lt hb),I.nofs hb, .inr (Nat.le_trans I.sz hb),fun x c e z=> ?_,fun p hp z=> ?_⟩
 ·obtain⟨v,q⟩:=I.cell x c e
  exact absurd (bf q.lt (by rw [z];exact hb)) (Nat.lt_irrefl _)
 ·exact absurd (bf (ah (I.pin p hp).1) (by rw [z];exact hb)) (Nat.lt_irrefl _)
structure Turn (P:Program) (w:World) (K:PySem.W.Frag) (tg:Expr) (J:It) (fp:List Addr) (it:Addr) (tn:Nat->Heap->Prop):Prop where
 mem:it∈fp
 obj: ∀ i h,tn i h-> ∀ b∈fp, ∃ o,h.get? b=some o/\ ∀ v,o.data≠ .cell v
 keep: ∀ i h h',tn i h->(∀ b∈fp, ∀ o,h.get? b=some o->h'.get? b=some o)->tn i h'
 item: ∀ (X:Cx),X.prog=P->X.w=w->X.K=K->X.calm=true-> ∀ (i:Nat) (pins:List (Addr×Obj)) (s:Shared) (σ:St) (H:Hp) (E:Value->Shared->Prop),Inv X pins σ H s->(∀ b∈fp,rL X pins H b)->tn i s.heap->J.go i H->
  wpAny (model P w) X.A (pyNext (.ref it)) (fun r s1=> ∃ u,r=some u/\
   wpAny (model P w) X.A (letOwnedTupleGo tg (.ref it) u) (fun _ s2=> ∃ x H',Inv X pins σ H' s2/\b9 x u/\J.yld i H x H'/\tn (i+1) s2.heap/\ ∀ b∈fp,H' b=none) E s1) E s
 done: ∀ (X:Cx),X.prog=P->X.w=w->X.K=K->X.calm=true-> ∀ (i:Nat) (pins:List (Addr×Obj)) (s:Shared) (σ:St) (H:Hp) (E:Value->Shared->Prop),Inv X pins σ H s->(∀ b∈fp,rL X pins H b)->tn i s.heap->J.stop i H->
  wpAny (model P w) X.A (pyNext (.ref it)) (fun r s1=>r=none/\Inv X pins σ H s1) E s
 self: ∀ (A:Around) (i:Nat) (s:Shared) (Q:Value->Shared->Prop) (E:Value->Shared->Prop),tn i s.heap->Q (.ref it) s->wpAny (model P w) A (pyIter (.ref it)) Q E s
abbrev TI:=St->Hp->(It->Hp->Prop)->Prop
def PIE (X:Cx) (pins:List (Addr×Obj)) (σ:St) (tg:Expr) (R:It->Hp->Prop) (itv:Value) (s2:Shared):Prop:=
 ∃ (it:Addr) (fp:List Addr) (tn:Nat->Heap->Prop) (J:It) (H':Hp),itv= .ref it/\Inv X pins σ H' s2/\Turn X.prog X.w X.K tg J fp it tn/\tn 0 s2.heap/\(∀ b∈fp,rL X pins H' b)/\R J H'
def PI (X:Cx) (tg iter:Expr) (wi:TI):Prop:=
 ∀ (pins:List (Addr×Obj)) (s:Shared) (σ:St) (H:Hp) (R:It->Hp->Prop),Inv X pins σ H s->wi σ H R->
  wpAny (model X.prog X.w) X.A (eval iter X.env) (fun v s1=>wpAny (model X.prog X.w) X.A (pyIter v) (PIE X pins σ tg R) X.xe s1) X.xe s
theorem aFa {M:Model} {A:Around} {E:Value->Shared->Prop} {s:Shared} {tg:Expr} {it:Addr} {u:Value} {o:Obj} {n:String} {vs:Array Value} {Q:Unit->Shared->Prop} (ho:s.heap.get? it=some o) (hc:o.cls= .type n) (hd:o.data= .fields vs)
  (hn:["enumerate","zip","dict_itemiterator","dict_reverseitemiterator","odict_iterator","itertools.zip_longest","itertools.pairwise"].contains n=false) (hQ:Q () s):wpAny M A (letOwnedTupleGo tg (.ref it) u) Q E s:=by
 unfold letOwnedTupleGo
 cases tg<;>first
  | exact ae hQ
  | (cases u<;>first
    | exact ae hQ
    | (refine aa (wpAny_load ho ?_)
       rw [hc,hd]
       show wpAny M A (if(["enumerate","zip","dict_itemiterator","dict_reverseitemiterator","odict_iterator","itertools.zip_longest","itertools.pairwise"].contains n&&vs[0]? ==some (rawInt _))=true then _ else _) Q E s
       rw [if_neg (by intro h;rw [hn,Bool.false_and] at h;cases h)]
       exact ae hQ))
noncomputable def Itl (K:PySem.W.Frag) (a:Addr):It:=
 ⟨fun i H=> ∃ xs x,SqL K H a xs/\xs[i]? =some x,fun i H x H'=>H'=H/\ ∀ xs,SqL K H a xs->xs[i]? =some x,fun i H=> ∃ xs,SqL K H a xs/\xs.length<=i⟩
noncomputable def Itt (K:PySem.W.Frag) (a:Addr):It:=
 ⟨fun i H=> ∃ xs x,SqT K H a xs/\xs[i]? =some x,fun i H x H'=>H'=H/\ ∀ xs,SqT K H a xs->xs[i]? =some x,fun i H=> ∃ xs,SqT K H a xs/\xs.length<=i⟩
noncomputable def Itr (lo:Int) (n:Nat):It:=⟨fun i _=>i<n,fun i H x H'=>H'=H/\x= .int (lo+i),fun i _=>n<=i⟩
theorem kJ {P:Program} {w:World} {K:PySem.W.Frag} {tg:Expr} (a it:Addr):Turn P w K tg (Itl K a) [it] it (fun i h=>h.IsListIter it a i) where
 mem:=by simp
 obj:=fun i h st b hb=>by
  have e:b=it:=by simpa using hb
  subst e
  obtain⟨o,e,c,d⟩:=st
  exact⟨o,e,fun v z=>by rw [d] at z;cases z⟩
 keep:=fun i h h' st k=>st.at fun o e=>k it (by simp) o e
 item:=by
  intro X hP hw hK hc i pins s σ H E I hf st hg
  subst hP hw hK
  obtain⟨xs,x,hq,hx⟩:=hg
  obtain⟨its,rv,p,hz⟩:=I.list hq
  obtain⟨u,hu,ru⟩:=rv.get hx
  obtain⟨f0,f1,f2,f3,f4,f5⟩:=hf it (by simp)
  refine wpAny_pyNext_list_item st p.isList (x:=u) (by simpa using hu) fun h' st' sb=> ?_
  have I1:Inv X pins σ H { s with heap:=h' }:=I.turned (t':=s.toks) (fun b o hb e=>(sb.2 b hb).trans e) f0 f1 f3 f4 f5
  obtain⟨o,e,c,d⟩:=id st'
  exact⟨u,rfl,aFa (s:={ s with heap:=h' }) e c d (by decide) ⟨x,H,I1,ru,⟨rfl,fun ys hy=>by rw [I.list_inj hy hq];exact hx⟩,st',fun b hb=>(hf b hb).1⟩⟩
 done:=by
  intro X hP hw hK hc i pins s σ H E I hf st hg
  subst hP hw hK
  obtain⟨xs,hq,hx⟩:=hg
  obtain⟨its,rv,p,hz⟩:=I.list hq
  obtain⟨f0,f1,f2,f3,f4,f5⟩:=hf it (by simp)
  have hl:=rv.length
  exact wpAny_pyNext_list_end (I.ok.hd hc) st p.isList (by simp;omega) fun h' eb=>⟨rfl,I.turned (t':=s.toks) (fun b o hb e=>eb b o hb e) f0 f1 f3 f4 f5⟩
 self:=fun _ _ _ _ _ st h=>wpAny_pyIter_listiter st h
theorem mC {P:Program} {w:World} {K:PySem.W.Frag} {tg:Expr} (a it:Addr):Turn P w K tg (Itt K a) [it] it (fun i h=>h.IsTupleIter it a i) where
 mem:=by simp
 obj:=fun i h st b hb=>by
  have e:b=it:=by simpa using hb
  subst e
  obtain⟨o,e,c,d⟩:=st
  exact⟨o,e,fun v z=>by rw [d] at z;cases z⟩
 keep:=fun i h h' st k=>st.at fun o e=>k it (by simp) o e
 item:=by
  intro X hP hw hK hc i pins s σ H E I hf st hg
  subst hP hw hK
  obtain⟨xs,x,hq,hx⟩:=hg
  obtain⟨its,rv,p,hz⟩:=I.tuple hq
  obtain⟨u,hu,ru⟩:=rv.get hx
  obtain⟨f0,f1,f2,f3,f4,f5⟩:=hf it (by simp)
  refine wpAny_pyNext_tuple_item st (show s.heap.IsTuple a its.toArray from p) (x:=u) (by simpa using hu) fun h' st' sb=> ?_
  have I1:Inv X pins σ H { s with heap:=h' }:=I.turned (t':=s.toks) (fun b o hb e=>(sb.2 b hb).trans e) f0 f1 f3 f4 f5
  obtain⟨o,e,c,d⟩:=id st'
  exact⟨u,rfl,aFa (s:={ s with heap:=h' }) e c d (by decide) ⟨x,H,I1,ru,⟨rfl,fun ys hy=>by rw [I.tuple_inj hy hq];exact hx⟩,st',fun b hb=>(hf b hb).1⟩⟩
 done:=by
  intro X hP hw hK hc i pins s σ H E I hf st hg
  subst hP hw hK
  obtain⟨xs,hq,hx⟩:=hg
  obtain⟨its,rv,p,hz⟩:=I.tuple hq
  obtain⟨f0,f1,f2,f3,f4,f5⟩:=hf it (by simp)
  have hl:=rv.length
  exact wpAny_pyNext_tuple_end (I.ok.hd hc) st (show s.heap.IsTuple a its.toArray from p) (by simp;omega) fun h' eb=>⟨rfl,I.turned (t':=s.toks) (fun b o hb e=>eb b o hb e) f0 f1 f3 f4 f5⟩
 self:=fun _ _ _ _ _ st h=>wpAny_pyIter_tupleiter st h
theorem vI {P:Program} {w:World} {K:PySem.W.Frag} {tg:Expr} (it:Addr) (lo:Int) (n:Nat):Turn P w K tg (Itr lo n) [it] it (fun i h=>IsRangeIter h it (lo+(i:Nat) * 1) ((n:Int) - (i:Nat)) 1) where
 mem:=by simp
 obj:=fun i h st b hb=>by
  have e:b=it:=by simpa using hb
  subst e
  exact⟨_,st,fun v z=>by
   have z':Data.fields _=Data.cell v:=z
   cases z'⟩
 keep:=fun i h h' st k=>k it (by simp) _ st
 item:=by
  intro X hP hw hK hc i pins s σ H E I hf st hg
  subst hP hw hK
  obtain⟨f0,f1,f2,f3,f4,f5⟩:=hf it (by simp)
  have W:=Walks.range (prog:=X.prog) (w:=X.w) (I.ok.hd hc) it lo 1 n
  refine W.item i s _ _ hg st fun v h' tk hv st' kk=> ?_
  obtain⟨t,rfl⟩:=hv
  have I1:Inv X pins σ H { s with heap:=h',toks:=tk }:=I.turned (fun b o hb e=>kk b o (by simpa using hb) e) f0 f1 f3 f4 f5
  refine⟨_,rfl,aFa (s:={ s with heap:=h',toks:=tk }) (n:="range_iterator") st' rfl rfl (by decide) ⟨.int (lo+i),H,I1,⟨t, ?_⟩,⟨rfl,rfl⟩,st',fun b hb=>(hf b hb).1⟩⟩
  rw [Int.mul_one]
 done:=by
  intro X hP hw hK hc i pins s σ H E I hf st hg
  subst hP hw hK
  obtain⟨f0,f1,f2,f3,f4,f5⟩:=hf it (by simp)
  exact wpAny_pyNext_range_end (I.ok.hd hc) st (by have:n<=i:=hg;omega) fun h' eb=>⟨rfl,I.turned (t':=s.toks) (fun b o hb e=>eb b o hb e) f0 f1 f3 f4 f5⟩
 self:=fun _ _ _ _ _ st h=>wpAny_pyIter_rangeiter st h
section
variable {X:Cx} {tg:Expr}
theorem aA5 {pins:List (Addr×Obj)} {σ:St} {H:Hp} {s:Shared} {R:It->Hp->Prop} {E:Value->Shared->Prop} {lo hi:Int} {t u v:Tok} {tk:Nat} (I:Inv X pins σ H s) (h1: -(2 ^ 62)<=lo) (h2:lo<2 ^ 62) (h3: -(2 ^ 62)<=hi) (h4:hi<2 ^ 62)
  (q:R (Itr lo (hi - lo).toNat) H):wpAny (model X.prog X.w) X.A (pyIter (.ref s.heap.objs.size)) (PIE X pins σ tg R) E { s with heap:=s.heap.push { cls:= .type "range",data:= .fields #[.int lo t, .int hi u, .int 1 v] },toks:=tk }:=by
 refine wpAny_pyIter_range (IsRange.new ..) (small_one h1 h2 h3 h4) ?_
 have I1:Inv X pins σ H { s with heap:=s.heap.push { cls:= .type "range",data:= .fields #[.int lo t, .int hi u, .int 1 v] },toks:=tk }:=I.kept fun b o e=>af _ e
 refine⟨(s.heap.push { cls:= .type "range",data:= .fields #[.int lo t, .int hi u, .int 1 v] }).objs.size,[(s.heap.push { cls:= .type "range",data:= .fields #[.int lo t, .int hi u, .int 1 v] }).objs.size],_,_,H,rfl,
  I1.kept (t':=tk) fun b o e=>af _ e,vI _ lo (hi - lo).toNat, ?_,fun b hb=> ?_,q⟩
 ·have e1:lo+((0:Nat):Int) * 1=lo:=by simp
  have e2:(((hi - lo).toNat:Nat):Int) - ((0:Nat):Int)=Builtin.Range.rangeSize lo hi 1:=by rw [rangeSize_one];split<;>omega
  show IsRangeIter _ _ (lo+((0:Nat):Int) * 1) ((((hi - lo).toNat:Nat):Int) - ((0:Nat):Int)) 1
  rw [e1,e2]
  exact ag _ rfl
 ·have e:b=(s.heap.push { cls:= .type "range",data:= .fields #[.int lo t, .int hi u, .int 1 v] }).objs.size:=by simpa using hb
  subst e
  exact I1.fpOk (aj _) (I1.hok.fresh (aj _))
noncomputable def aMt (ta:TA):TI:=fun σ H R=>ta σ H fun vs H1=> ∃ j:Int,vs=[.int j]/\ -(2 ^ 62)<=j/\j<2 ^ 62/\R (Itr 0 j.toNat) H1
theorem pB {a:Expr} {ta:TA} {p pos:Pos} (hg:Gl X "range") (hm:X.mg "range"=none) (ha:PA X [a] ta) (hs:starEach [a] X.env=[(false,eval a X.env)]:=by rfl):PI X tg (.Call (.Name "range" p) [a] [] pos) (aMt ta):=by
 intro pins s σ H R I h
 refine Call_ (gU I hg hm boot_range (PyProof.Rows.callWith_type1 (thn (ha pos pins s σ H _ I h) fun us s1 ⟨vs,H1,I1,r1,q1⟩=> ?_) hs rfl))
 obtain⟨j,e,q1,q2,q⟩:=q1
 subst e
 cases r1 with
 | cons r rr=>
  cases rr
  obtain⟨t,rfl⟩:=r
  exact call_range_1 (aA5 I1 (by omega) (by omega) q1 q2 (by simpa using q))
noncomputable def aPe (wi:TI) (g:TG) (tb:TS):TS:=fun D σ H=>wi σ H fun J H1=> ∃ W:Nat->Nat->St->Hp->Prop,(∃ m,W 0 m σ H1)/\ ∀ i m σ H,W i m σ H->
 (J.stop i H/\D.nx σ H)\/(J.go i H/\ ∃ N:St->Hp->Prop,(∀ σ' H',N σ' H'-> ∃ m',m'<m/\W (i+1) m' σ' H')/\ ∀ x H',J.yld i H x H'->g x σ H' fun σ2 H2=>tb { D with nx:=N,ct:=N,bk:=D.nx } σ2 H2)
noncomputable def mD (fp:List Addr) (h:Heap):List (Addr×Obj):=fp.filterMap fun b=>(h.get? b).map fun o=>(b,o)
theorem gM {fp:List Addr} {h:Heap} {b:Addr} {o:Obj} (hb:b∈fp) (e:h.get? b=some o):(b,o)∈mD fp h:=List.mem_filterMap.mpr ⟨b,hb,by rw [e];rfl⟩
theorem wS {fp:List Addr} {h:Heap} {p:Addr×Obj} (hp:p∈mD fp h):p.1∈fp/\h.get? p.1=some p.2:=by
 obtain⟨b,hb,e⟩:=List.mem_filterMap.mp hp
 cases q:h.get? b with
 | none=>rw [q] at e;cases e
 | some o=>
  rw [q] at e
  have e':(b,o)=p:=Option.some.inj e
  subst e'
  exact⟨hb,q⟩
theorem Inv.pinned {pins:List (Addr×Obj)} {σ:St} {H:Hp} {s:Shared} {fp:List Addr} (I:Inv X pins σ H s) (hf: ∀ b∈fp,rL X pins H b) (ho: ∀ b∈fp, ∃ o,s.heap.get? b=some o/\ ∀ v,o.data≠ .cell v):Inv X (pins++mD fp s.heap) σ H s:=
 I.pins_of fun p hp=>(List.mem_append.mp hp).elim (fun z=>I.pin p (bp _ z)) fun z=>by
  obtain⟨hb,e⟩:=wS z
  obtain⟨f0,f1,f2,_⟩:=hf p.1 hb
  obtain⟨o,e',d⟩:=ho p.1 hb
  rw [e] at e';cases e'
  exact⟨e,f0,f1,f2,d⟩
theorem Inv.unpinned {pins pl:List (Addr×Obj)} {σ:St} {H:Hp} {s:Shared} (I:Inv X (pins++pl) σ H s):Inv X pins σ H s:=I.pins_of fun p hp=>I.pin p (bp _ (List.mem_append_left _ hp))
theorem aDq {iter:Expr} {body:List Stmt} {wi:TI} {g:TG} {tb:TS} {pos:Pos} (hp:PassesOwn (model X.prog X.w) X.A X.env X.xe) (hc:X.calm=true) (hi:PI X tg iter wi) (hg:PG X tg g) (hb:PSs X body tb)
  (hs: ∀ x,foldedSetIterable iter X.env x=pure x:=by intro _;rfl):PS X (.For tg iter body [] pos) (aPe wi g tb):=by
 intro pins s σ H D I h
 refine wpAny_For (thn (hi pins s σ H _ I h) fun v s1 h1=>thn h1 fun itv s2 h2=> ?_) hs
 obtain⟨it,fp,tn,J,H2,e,I2,T,st2,f2,W,⟨m0,w0⟩,turn⟩:=h2
 subst e
 -- what l4 true of the iterator's objects through the loop
 have stat: ∀ {H':Hp},(∀ b∈fp,H' b=none)-> ∀ b∈fp,rL X pins H' b:=fun hn b hb=>⟨hn b hb,(f2 b hb).2⟩
 refine codeAny_forLoop_any (fun n s'=> ∃ i σ' H',Inv X pins σ' H' s'/\tn i s'.heap/\(∀ b∈fp,H' b=none)/\W i n σ' H') ?_ m0 ⟨0,σ,H2,I2,st2,fun b hb=>(f2 b hb).1,w0⟩
 rintro n s3 ⟨i,σ3,H3,I3,st3,fr3,w3⟩
 rcases turn i n σ3 H3 w3 with ⟨stop,qn⟩ | ⟨go,N,hN,step⟩
 ·refine wpAny_passesOwn hp (thn (T.done X rfl rfl rfl hc i pins s3 σ3 H3 X.xe I3 (stat fr3) st3 stop) fun r s4 hz_=> ?_)
  obtain⟨hr,I4⟩:=hz_
  subst hr
  exact wpAny_execs_nil ⟨σ3,H3,I4,qn⟩
 ·refine wpAny_passesOwn hp (thn (T.item X rfl rfl rfl hc i pins s3 σ3 H3 X.xe I3 (stat fr3) st3 go) fun r s4 hz_=> ?_)
  obtain⟨u,hr,h4⟩:=hz_
  subst hr
  refine wpAny_passesOwn hp (thn h4 fun _ s5 hz_=> ?_)
  obtain⟨x,H5,I5,r5,y5,st5,fr5⟩:=hz_
  have I5':=I5.pinned (stat fr5) (T.obj _ _ st5)
  refine wpAny_passesOwn hp (thn (hg _ s5 σ3 H5 x u _ I5' r5 (step x H5 y5)) fun _ s6 hz_=> ?_)
  obtain⟨σ6,H6,I6,q6⟩:=hz_
  refine wpAny_passesOwn hp (thn (hb _ s6 σ6 H6 _ I6 q6) fun f s7 q7=> ?_)
  have again: ∀ {σ7:St} {H7:Hp},Inv X (pins++mD fp s5.heap) σ7 H7 s7->N σ7 H7-> ∃ m,m<n/\ ∃ i σ' H',Inv X pins σ' H' s7/\tn i s7.heap/\(∀ b∈fp,H' b=none)/\W i m σ' H':=fun {σ7 H7} I7 n7=>by
   obtain⟨m',hm,w7⟩:=hN σ7 H7 n7
   refine⟨m',hm,i+1,σ7,H7,I7.unpinned,T.keep _ _ _ st5 fun b hb o e=>(I7.pin (b,o) (bp _ (bp _ (gM hb e)))).1,fun b hb=> ?_,w7⟩
   obtain⟨o,e,d⟩:=T.obj _ _ st5 b hb
   exact(I7.pin (b,o) (bp _ (bp _ (gM hb e)))).2.1
  cases f with
  | next=>obtain⟨σ7,H7,I7,n7⟩:=q7;exact again I7 n7
  | cont=>obtain⟨σ7,H7,I7,n7⟩:=q7;exact again I7 n7
  | brk=>obtain⟨σ7,H7,I7,q7⟩:=q7;exact⟨σ7,H7,I7.unpinned,q7⟩
  | ret v=>obtain⟨x7,σ7,H7,I7,r7,q7⟩:=q7;exact⟨x7,σ7,H7,I7.unpinned,r7,q7⟩
end
abbrev R2:=V->V->Hp->VK->Prop
def OpR (X:Cx) (f:Value->Value->Sem Value) (r:R2):Prop:=
 ∀ (pins:List (Addr×Obj)) (s:Shared) (σ:St) (H:Hp) (x y:V) (v u:Value) (Q:VK),Inv X pins σ H s->b9 x v->b9 y u->r x y H Q->
  wpAny (model X.prog X.w) X.A (f v u) (EP X pins σ Q) X.xe s
def UnR (X:Cx) (f:Value->Sem Value) (r:V->Hp->VK->Prop):Prop:=
 ∀ (pins:List (Addr×Obj)) (s:Shared) (σ:St) (H:Hp) (x:V) (v:Value) (Q:VK),Inv X pins σ H s->b9 x v->r x H Q->
  wpAny (model X.prog X.w) X.A (f v) (EP X pins σ Q) X.xe s
def nN (X:Cx) (f:Value) (r:List V->Hp->VK->Prop):Prop:=
 ∀ (pins:List (Addr×Obj)) (s:Shared) (σ:St) (H:Hp) (xs:List V) (us:List Value) (Q:VK),Inv X pins σ H s->bI xs us->r xs H Q->
  wpAny (model X.prog X.w) X.A (call f us) (EP X pins σ Q) X.xe s
noncomputable def tUn (r:V->Hp->VK->Prop) (ta:TE):TE:=fun σ H Q=>ta σ H fun x H1=>r x H1 Q
noncomputable def rI (C:Int->Int->Prop) (g:Int->Int->V):R2:=fun x y H Q=> ∃ i j,x= .int i/\y= .int j/\C i j/\Q (g i j) H
noncomputable def rI0 (g:Int->Int->V):R2:=fun x y H Q=> ∃ i j,x= .int i/\y= .int j/\Q (g i j) H
noncomputable def rU (g:Int->V):V->Hp->VK->Prop:=fun x H Q=> ∃ i,x= .int i/\Q (g i) H
section
variable {X:Cx} {a b c:Expr} {ta tb tc:TE} {pos:Pos}
theorem aMu {op:UnaryOp} {r:V->Hp->VK->Prop} (ho:UnR X (unaryOp op) r) (ha:PE X a ta):PE X (.UnaryOp op a pos) (tUn r ta):=by
 intro pins s σ H Q I h
 exact UnaryOp_ (thn (ha pins s σ H _ I h) fun v s1 ⟨x,H1,I1,r1,q1⟩=>ho pins s1 σ H1 x v Q I1 r1 q1)
theorem opI {f:Value->Value->Sem Value} {C:Int->Int->Prop} {g:Int->Int->Int}
  (rule: ∀ (i j:Int) (t u:Tok) (s:Shared) (Q:Value->Shared->Prop) (E:Value->Shared->Prop),C i j->Q (.int (g i j) s.toks) { s with toks:=s.toks+1 }->wpAny (model X.prog X.w) X.A (f (.int i t) (.int j u)) Q E s):
  OpR X f (rI C fun i j=> .int (g i j)):=by
 intro pins s σ H x y v u Q I rx ry h
 obtain⟨i,j,rfl,rfl,hc,q⟩:=h
 obtain⟨t,rfl⟩:=rx
 obtain⟨t',rfl⟩:=ry
 exact rule i j t t' s _ _ hc ⟨.int (g i j),H,I.tok _,⟨_,rfl⟩,q⟩
theorem aJa {f:Value->Value->Sem Value} {g:Int->Int->Int}
  (rule: ∀ (i j:Int) (t u:Tok) (s:Shared) (Q:Value->Shared->Prop) (E:Value->Shared->Prop),Q (.int (g i j) s.toks) { s with toks:=s.toks+1 }->wpAny (model X.prog X.w) X.A (f (.int i t) (.int j u)) Q E s):
  OpR X f (rI0 fun i j=> .int (g i j)):=by
 intro pins s σ H x y v u Q I rx ry h
 obtain⟨i,j,rfl,rfl,q⟩:=h
 obtain⟨t,rfl⟩:=rx
 obtain⟨t',rfl⟩:=ry
 exact rule i j t t' s _ _ ⟨.int (g i j),H,I.tok _,⟨_,rfl⟩,q⟩
theorem aMa {f:Value->Value->Sem Value} {g:Int->Int->Bool}
  (rule: ∀ (i j:Int) (t u:Tok) (s:Shared) (Q:Value->Shared->Prop) (E:Value->Shared->Prop),Q (.bool (g i j)) s->wpAny (model X.prog X.w) X.A (f (.int i t) (.int j u)) Q E s):
  OpR X f (rI0 fun i j=> .bl (g i j)):=by
 intro pins s σ H x y v u Q I rx ry h
 obtain⟨i,j,rfl,rfl,q⟩:=h
 obtain⟨t,rfl⟩:=rx
 obtain⟨t',rfl⟩:=ry
 exact rule i j t t' s _ _ ⟨.bl (g i j),H,I,rfl,q⟩
def aPf (i j:Int):Prop:=0<j/\j<1073741824
def aPg (i j:Int):Prop:=0<=j/\j<=1000000/\i.natAbs<2 ^ 64
def aMv (i j:Int):Prop:=(-(2 ^ 64)<i/\i<2 ^ 64)\/(-(2 ^ 64)<j/\j<2 ^ 64)
theorem aMv.ok {i j:Int} (h:aMv i j):IntMulOk i j:=by
 rcases h with ⟨h1,h2⟩ | ⟨h1,h2⟩
 ·exact .of_left (intBits_le_64 h1 h2)
 ·exact .of_right (intBits_le_64 h1 h2)
theorem vJ (k:Nat):(0:Int)<=2 ^ k:=by
 rw [two_pow_cast]
 exact Int.natCast_nonneg _
theorem aJb:OpR X (binaryOp .Add) (rI0 fun i j=> .int (i+j)):=aJa fun _ _ _ _ _ _ _ q=>add_int q
theorem aJc:OpR X (binaryOp .Sub) (rI0 fun i j=> .int (i - j)):=aJa fun _ _ _ _ _ _ _ q=>sub_int q
theorem aJd:OpR X (binaryOp .Mult) (rI aMv fun i j=> .int (i * j)):=opI fun _ _ _ _ _ _ _ hc q=>mul_int q hc.ok
theorem aFb:OpR X (binaryOp .FloorDiv) (rI aPf fun i j=> .int (i / j)):=opI fun i j _ _ _ _ _ hc q=>by
 have h1:(0:Int)<j:=hc.1
 have h2:j<1073741824:=hc.2
 exact floordiv_int (by omega) (by rw [Int.fdiv_eq_ediv_of_nonneg i (by omega)];exact q) (.inl (PyProof.noPylong_small (by omega)))
theorem aJe:OpR X (binaryOp .Mod) (rI (fun _ j=>0<j) fun i j=> .int (i % j)):=opI fun i j _ _ _ _ _ hc q=>by
 have h1:(0:Int)<j:=hc
 exact mod_int' (by omega) (by rw [Int.fmod_eq_emod_of_nonneg i (by omega)];exact q)
theorem aJf:OpR X (binaryOp .LShift) (rI aPg fun i j=> .int (i * 2 ^ j.toNat)):=opI fun _ _ _ _ _ _ _ hc q=>lshift_int_small hc.1 hc.2.1 hc.2.2 q
theorem aJg:OpR X (binaryOp .RShift) (rI (fun _ j=>0<=j) fun i j=> .int (i / 2 ^ j.toNat)):=opI fun i j _ _ _ _ _ hc q=>
 rshift_int hc (by rw [Int.fdiv_eq_ediv_of_nonneg i (vJ _)];exact q)
theorem aJh:OpR X (binaryOp .BitAnd) (rI0 fun i j=> .int (Builtin.bitAnd i j)):=aJa fun _ _ _ _ _ _ _ q=>and_int q
theorem aMw:OpR X (binaryOp .BitOr) (rI0 fun i j=> .int (Builtin.bitOr i j)):=aJa fun _ _ _ _ _ _ _ q=>or_int q
theorem aJi:OpR X (binaryOp .BitXor) (rI0 fun i j=> .int (Builtin.bitXor i j)):=aJa fun _ _ _ _ _ _ _ q=>xor_int q
theorem unI {f:Value->Sem Value} {g:Int->Int}
  (rule: ∀ (i:Int) (t:Tok) (s:Shared) (Q:Value->Shared->Prop) (E:Value->Shared->Prop),Q (.int (g i) s.toks) { s with toks:=s.toks+1 }->wpAny (model X.prog X.w) X.A (f (.int i t)) Q E s):
  UnR X f (rU fun i=> .int (g i)):=by
 intro pins s σ H x v Q I rx h
 obtain⟨i,rfl,q⟩:=h
 obtain⟨t,rfl⟩:=rx
 exact rule i t s _ _ ⟨.int (g i),H,I.tok _,⟨_,rfl⟩,q⟩
theorem aJj:UnR X (unaryOp .USub) (rU fun i=> .int (-i)):=unI fun _ _ _ _ _ q=>neg_int q
end
section
variable {X:Cx} {a b c:Expr} {ta tb tc:TE} {pos:Pos}
theorem aDr {pins:List (Addr×Obj)} {σ:St} {H:Hp} {s:Shared} {Q:VK} {k k':Bool} (I:Inv X pins σ H s) (q:Q (.bl k) H) (e:k=k'):EP X pins σ Q (.bool k') s:=by
 subst e
 exact⟨.bl k,H,I,rfl,q⟩
theorem aMx:OpR X (compareOp .Lt) (rI0 fun i j=> .bl (decide (i<j))):=aMa fun _ _ _ _ _ _ _ q=>lt_int q
theorem aMy:OpR X (compareOp .LtE) (rI0 fun i j=> .bl (decide (i<=j))):=aMa fun _ _ _ _ _ _ _ q=>le_int q
theorem aMz:OpR X (compareOp .Gt) (rI0 fun i j=> .bl (decide (j<i))):=aMa fun _ _ _ _ _ _ _ q=>gt_int q
theorem aM0:OpR X (compareOp .GtE) (rI0 fun i j=> .bl (decide (j<=i))):=aMa fun _ _ _ _ _ _ _ q=>ge_int q
theorem aJk:OpR X (compareOp .Is) (fun x y H Q=>y= .non/\Q (.bl (decide (x= .non))) H):=by
 intro pins s σ H x y v u Q I rx ry h
 obtain⟨rfl,q⟩:=h
 cases ry
 refine is_none_gen (aDr I q ?_)
 cases x<;>first
  | (cases rx;rfl)
  | (obtain⟨t,rfl⟩:=rx;rfl)
theorem aFc:OpR X (compareOp .IsNot) (fun x y H Q=>y= .non/\Q (.bl (!decide (x= .non))) H):=by
 intro pins s σ H x y v u Q I rx ry h
 obtain⟨rfl,q⟩:=h
 cases ry
 refine isnot_none_gen (aDr I q ?_)
 cases x<;>first
  | (cases rx;rfl)
  | (obtain⟨t,rfl⟩:=rx;rfl)
theorem sZ:(sizeLine:Nat)<2 ^ 63:=by rw [sizeLine_eq];decide
theorem nO {x:V} {us:List Value} (r:bI [x] us): ∃ u,us=[u]/\b9 x u:=by
 cases r with
 | cons r1 r2=>cases r2;exact⟨_,rfl,r1⟩
theorem aJl {x y:V} {us:List Value} (r:bI [x,y] us): ∃ u w',us=[u,w']/\b9 x u/\b9 y w':=by
 cases r with
 | cons r1 r2=>
  cases r2 with
  | cons r3 r4=>cases r4;exact⟨_,_,rfl,r1,r3⟩
theorem aA6:nN X (.builtin "abs") (fun xs H Q=> ∃ i,xs=[.int i]/\Q (.int (if i<0 then -i else i)) H):=by
 intro pins s σ H xs us Q I r h
 obtain⟨i,rfl,q⟩:=h
 obtain⟨u,rfl,t,rfl⟩:=nO r
 exact call_abs_int fun u tk=>⟨.int (if i<0 then -i else i),H,I.tok _,⟨_,rfl⟩,q⟩
theorem wT (hc:X.calm=true):nN X (.builtin "max") (fun xs H Q=> ∃ i j,xs=[.int i, .int j]/\Q (.int (if j > i then j else i)) H):=by
 intro pins s σ H xs us Q I r h
 obtain⟨i,j,rfl,q⟩:=h
 obtain⟨u,w',rfl,⟨t,rfl⟩,⟨t',rfl⟩⟩:=aJl r
 refine max_two_ints (I.ok.hd hc) fun h' tk k=>⟨_,H,I.kept k, ?_,q⟩
 by_cases hj:j > i
 ·rw [if_pos hj,if_pos hj];exact⟨_,rfl⟩
 ·rw [if_neg hj,if_neg hj];exact⟨_,rfl⟩
theorem aJm (hc:X.calm=true):nN X (.builtin "min") (fun xs H Q=> ∃ i j,xs=[.int i, .int j]/\Q (.int (if j<i then j else i)) H):=by
 intro pins s σ H xs us Q I r h
 obtain⟨i,j,rfl,q⟩:=h
 obtain⟨u,w',rfl,⟨t,rfl⟩,⟨t',rfl⟩⟩:=aJl r
 refine min_two_ints (I.ok.hd hc) fun h' tk k=>⟨_,H,I.kept k, ?_,q⟩
 by_cases hj:j<i
 ·rw [if_pos hj,if_pos hj];exact⟨_,rfl⟩
 ·rw [if_neg hj,if_neg hj];exact⟨_,rfl⟩
theorem pC:nN X (.type "int") (fun xs H Q=>(∃ i,xs=[.int i]/\Q (.int i) H)\/ ∃ k,xs=[.bl k]/\Q (.int (if k then 1 else 0)) H):=by
 intro pins s σ H xs us Q I r h
 rcases h with ⟨i,rfl,q⟩ | ⟨k,rfl,q⟩
 ·obtain⟨u,rfl,t,rfl⟩:=nO r
  exact call_int_int ⟨.int i,H,I,⟨_,rfl⟩,q⟩
 ·obtain⟨u,rfl,r1⟩:=nO r
  cases r1
  exact call_int_bool ⟨.int (if k then 1 else 0),H,I.tok _,⟨_,rfl⟩,q⟩
end
section
variable {prog:Program} {w:World} {A:Around} {E:Value->Shared->Prop} {s:Shared} {K:PySem.W.Frag} {x dx C f:Addr} {mA:Str->Option Value} {name:Str} {v:Value}
end
section
variable {P:Program} {w:World} {H H':Hp} {h h':Heap} {a C dx:Addr} {fs fs':List (Str×V)}
end
section
variable {X:Cx} {pins:List (Addr×Obj)} {σ:St} {H:Hp} {s:Shared} {a C dx:Addr} {fs:List (Str×V)} {f:Str} {v:V} {A:Around} {E:Value->Shared->Prop}
end
section
variable {X:Cx} {o e value:Expr} {f:Str} {pos pos' tpos:Pos} {ta tv:TE}
end
section
variable {X:Cx} {pins:List (Addr×Obj)} {σ:St} {H:Hp} {s:Shared} {A:Around} {E:Value->Shared->Prop} {Q:Value->Shared->Prop} {c:Value} {b:Bool}
end
structure Room (k:Nat) (A:Around):Prop where
 hd:A.handled=none
 dp:A.depth+3 * k+5<recursionLimit
 un:A.units+16 * k+200<cLine
theorem Room.mono {j k:Nat} {A:Around} (r:Room k A) (h:j<=k):Room j A:=⟨r.hd,by have:=r.dp;omega,by have:=r.un;omega⟩
theorem Room.deeper {k:Nat} {A:Around} (r:Room (k+1) A) (env:Env):Room k (A.deeper env):=
 ⟨r.hd,by have:=r.dp;show A.depth+1+3 * k+5<_;omega,by have:=r.un;show A.units+3+16 * k+200<_;omega⟩
theorem Room.depth {k:Nat} {A:Around} (r:Room k A):A.depth<recursionLimit:=by have:=r.dp;omega
theorem Room.units {k:Nat} {A:Around} (r:Room k A):A.units+64<cLine:=by have:=r.un;omega
noncomputable def aJn:TA:=fun _ H Q=>Q [] H
noncomputable def vK (ta:TE) (tr:TA):TA:=fun σ H Q=>ta σ H fun x H1=>tr σ H1 fun xs H2=>Q (x::xs) H2
section
variable {X:Cx} {e:Expr} {es:List Expr} {te:TE} {t:TA} {pos:Pos}
theorem gA:PA X [] aJn:=fun _ _ _ _ H Q I h=>Calls.spliced_nil ⟨[],H,I, .nil,h⟩
theorem dR (ha:PE X e te) (hr:PA X es t) (hs:starEach (e::es) X.env=(false,eval e X.env)::starEach es X.env:=by rfl):PA X (e::es) (vK te t):=by
 intro pos pins s σ H Q I h
 rw [hs]
 show wpAny _ _ (spliced ((false,eval e X.env)::backTo pos (starEach es X.env))) _ _ s
 refine Calls.spliced_cons (thn (ha pins s σ H _ I h) fun u s1 hz_=> ?_)
 obtain⟨x,H1,I1,r1,q1⟩:=hz_
 exact thn (hr pos pins s1 σ H1 _ I1 q1) fun us s2 ⟨xs,H2,I2,r2,q2⟩=>⟨x::xs,H2,I2, .cons r1 r2,q2⟩
noncomputable def aPh (t:TA):TE:=fun σ H Q=>t σ H fun xs H1=>xs.length<=sizeLine/\ ∀ p,H1 p=none->Q (.ref p) (upd H1 p (.tup xs))
noncomputable def aPi (t:TA):TE:=fun σ H Q=>t σ H fun xs H1=>xs.length<=sizeLine/\ ∀ p,H1 p=none->Q (.ref p) (upd H1 p (.lst xs))
theorem aJo {x1} (h:PA X es t):PE X (.Tuple es x1 pos) (aPh t):=by
 intro pins s σ H Q I hq
 refine wpAny_Tuple_spliced (thn (h pos pins s σ H _ I hq) fun us s1 ⟨xs,H1,I1,r,z,q⟩=>⟨by rw [<-r.length];exact z, ?_⟩)
 have hf:H1 s1.heap.objs.size=none:=I1.hok.fresh (aj _)
 refine⟨.ref s1.heap.objs.size,upd H1 s1.heap.objs.size (.tup xs),I1.laid (t':=s1.toks) (fun b u e=>af _ e) (aj _) ?_,rfl,q _ hf⟩
 exact⟨z,us,r,⟨_,ag _ rfl,rfl,_,rfl⟩,⟨_,ag _ rfl,rfl⟩⟩
theorem aJp (h:PA X es t):PE X (.List es pos) (aPi t):=by
 intro pins s σ H Q I hq
 refine wpAny_List_spliced (thn (h pos pins s σ H _ I hq) fun us s1 ⟨xs,H1,I1,r,z,q⟩=>⟨by rw [<-r.length];exact z, ?_⟩)
 have hf:H1 s1.heap.objs.size=none:=I1.hok.fresh (aj _)
 refine⟨.ref s1.heap.objs.size,upd H1 s1.heap.objs.size (.lst xs),I1.laid (t':=s1.toks) (fun b u e=>af _ e) (aj _) ?_,rfl,q _ hf⟩
 exact⟨z,us,0,r,ag _ rfl⟩
end
abbrev Sp:=List V->Hp->VK->XK->Prop
abbrev CXT:=List Env->Hp->Shared->XK->Value->Shared->Prop
structure Env0 (P:Program) (w:World) (K:PySem.W.Frag) (mg:Str->Option Value) (base:Heap) (A:Around) (outer:List Env) (s:Shared) (H:Hp):Prop where
 frames:A.frames=some outer
 mod:Mod K mg base
 bs: ∀ b o,base.get? b=some o->s.heap.get? b=some o/\H b=none
 bsz:base.objs.size<=s.heap.objs.size
 funs:s.heap.FunFrames base outer
 frf: ∀ b∈frs outer,H b=none
 hok:HOk P w H s.heap
 bare:AllBare s.gens
def CE (outer:List Env) (P:Program) (w:World) (H:Hp) (s:Shared) (Q:VK) (u:Value) (s':Shared):Prop:=
 ∃ v H',s'.os=s.os/\AllBare s'.gens/\Un (frs outer) [] H H' s.heap s'.heap/\HOk P w H' s'.heap/\b9 v u/\Q v H'
def CR (CX:CXT) (outer:List Env) (P:Program) (w:World) (H:Hp) (s:Shared) (Q:VK) (E:XK) (r:Result) (s':Shared):Prop:=
 match r with
 | .ok (.ret u)=>CE outer P w H s Q u s'
 | .ok _=>False
 | .error e=>CX outer H s E e s'
structure FnOk (P:Program) (w:World) (K:PySem.W.Frag) (mg:Str->Option Value) (base:Heap) (CX:CXT) (k:Nat) (f:Addr) (fd:FuncData) (ps:List Str) (sp:Sp):Prop where
 len: ∀ vs H Q E,sp vs H Q E->vs.length=ps.length
 run: ∀ (A:Around) (outer:List Env) (s:Shared) (H:Hp) (args:Args) (us:List Value) (vs:List V) (Q:VK) (E:XK),Room k A->Env0 P w K mg base A outer s H->BindsTo s fd args (ps.zip us)->bI vs us->sp vs H Q E->
  codeAny (model P w) A (.call (.ref f) args) (CR CX outer P w H s Q E) s
theorem FnOk.imp {P:Program} {w:World} {K:PySem.W.Frag} {mg:Str->Option Value} {base:Heap} {CX:CXT} {k:Nat} {f:Addr} {fd:FuncData} {ps:List Str} {sp sp':Sp} (F:FnOk P w K mg base CX k f fd ps sp)
  (h: ∀ vs H Q E,sp' vs H Q E->sp vs H Q E):FnOk P w K mg base CX k f fd ps sp':=
 ⟨fun vs H Q E q=>F.len vs H Q E (h _ _ _ _ q),fun A outer s H args us vs Q E hr he hb hv hs=>F.run A outer s H args us vs Q E hr he hb hv (h _ _ _ _ hs)⟩
section
variable {X:Cx} {pins:List (Addr×Obj)} {σ:St} {H:Hp} {s s':Shared}
theorem Inv.env0 (I:Inv X pins σ H s):Env0 X.prog X.w X.K X.mg X.base X.A X.stack s H:=
 ⟨I.ok.frames,I.ok.mod,I.bs,Nat.le_trans I.ok.bsz I.sz,I.stack,I.stkFree,I.hok,I.bare⟩
theorem Inv.after {Q:VK} {u:Value} (I:Inv X pins σ H s) (h:CE X.stack X.prog X.w H s Q u s'):EP X pins σ Q u s':=by
 obtain⟨v,H',os,bare,un,hok,r,q⟩:=h
 obtain⟨hh,g,d,t,os'⟩:=s'
 obtain rfl:os'=s.os:=os
 exact⟨v,H',I.call (h':=hh) (g':=g) (d':=d) (t':=t) (ch:=[]) un hok bare (fun b z=>absurd z (by simp)),r,q⟩
end
def kM (K:PySem.W.Frag) (fd:FuncData) (ps:List Str) (ds:List Value):Prop:=
 ∀ (s:Shared) (us:List Value),K.In s.heap->(us++ds).length=ps.length->BindsTo s fd ⟨us,[]⟩ (ps.zip (us++ds))
theorem kM.all {K:PySem.W.Frag} {fd:FuncData} {ps:List Str} (h: ∀ us:List Value,us.length=ps.length->bindArgs fd ⟨us,[]⟩=pure (ps.zip us)):kM K fd ps []:=fun s us _ hl=>by
 rw [List.append_nil] at hl ⊢
 exact .of_eq (h us hl)
section
variable {X:Cx} {CX:CXT} {k:Nat} {f C:Addr} {fd:FuncData} {ps:List Str} {sp:Sp} {dvs:List V} {ds:List Value} {E:XK} {x m:Str} {p pos apos:Pos} {e o:Expr} {es:List Expr} {ta:TE} {t:TA}
end
def PK (X:Cx) (kws:List Keyword) (t:TA):Prop:=
 ∀ (pos:Pos) (pins:List (Addr×Obj)) (s:Shared) (σ:St) (H:Hp) (Q:List V->Hp->Prop),Inv X pins σ H s->t σ H Q->wpAny (model X.prog X.w) X.A (evalAll ((backToKw pos (keywordEach kws X.env)).map (·.2))) (AP X pins σ Q) X.xe s
section
variable {X:Cx} {CX:CXT} {k:Nat} {f C:Addr} {fd:FuncData} {ps ks:List Str} {sp:Sp} {E:XK} {x m:Str} {p pos apos kpos:Pos} {e o:Expr} {es:List Expr} {kws:List Keyword} {te ta:TE} {t tk:TA} {nm:Option Str}
variable {g:List Value->List Value->List Value} {gV:List V->List V->List V}
end
structure FnScope (N P:List Str) (sc:Scope):Prop where
 kind:sc.kind= .function
 co:sc.isCoroutine=false
 gen:sc.isGenerator=false
 nd:N.Nodup
 pre:N.take P.length=P
 par: ∀ x∈P,sc.names.lookup x=some .local\/sc.names.lookup x=some .cell
 nofree: ∀ y∈sc.names,y.2≠ .free
theorem pD {kindOf:Str->Option NameKind} {x:Str}: ∀ {binds:List (Str×Value)} {m:Str->Option Value},(∀ v,(x,v)∉binds)->bindL kindOf binds m x=m x
 | [],_,_=>rfl
 | (n,v)::r,m,h=>by
  unfold bindL
  rw [pD fun w hw=>h w (List.mem_cons_of_mem _ hw)]
  split
  ·have:x≠n:=by rintro rfl;exact h v List.mem_cons_self
   simp [this]
  ·rfl
theorem pE {kindOf:Str->Option NameKind} {x:Str}: ∀ {binds:List (Str×Value)} {m:Str->Option Value},(∀ v,(x,v)∉binds)->bindC kindOf binds m x=m x
 | [],_,_=>rfl
 | (n,v)::r,m,h=>by
  unfold bindC
  rw [pE fun w hw=>h w (List.mem_cons_of_mem _ hw)]
  split
  ·rfl
  ·have:x≠n:=by rintro rfl;exact h v List.mem_cons_self
   simp [this]
theorem pF {kindOf:Str->Option NameKind} {x:Str} {v:Value}: ∀ {P:List Str} {vs:List Value} {i:Nat} {m:Str->Option Value},P.Nodup->P[i]? =some x->vs[i]? =some v->kindOf x=some .local->
  bindL kindOf (P.zip vs) m x=some v
 | [],_,_,_,_,h,_,_=>by simp at h
 | _::_,[],_,_,_,_,h,_=>by simp at h
 | p::P,w::vs,0,m,nd,h1,h2,hk=>by
  simp at h1 h2;subst h1;subst h2
  show bindL kindOf ((p,w)::P.zip vs) m p=_
  unfold bindL
  rw [pD fun v hv=>(List.nodup_cons.mp nd).1 (List.of_mem_zip hv).1,if_pos hk]
  simp
 | p::P,w::vs,i+1,m,nd,h1,h2,hk=>by
  show bindL kindOf ((p,w)::P.zip vs) m x=_
  unfold bindL
  exact pF (i:=i) (List.nodup_cons.mp nd).2 (by simpa using h1) (by simpa using h2) hk
theorem pG {kindOf:Str->Option NameKind} {x:Str} {v:Value}: ∀ {P:List Str} {vs:List Value} {i:Nat} {m:Str->Option Value},P.Nodup->P[i]? =some x->vs[i]? =some v->kindOf x≠some .local->
  bindC kindOf (P.zip vs) m x=some v
 | [],_,_,_,_,h,_,_=>by simp at h
 | _::_,[],_,_,_,_,h,_=>by simp at h
 | p::P,w::vs,0,m,nd,h1,h2,hk=>by
  simp at h1 h2;subst h1;subst h2
  show bindC kindOf ((p,w)::P.zip vs) m p=_
  unfold bindC
  rw [pE fun v hv=>(List.nodup_cons.mp nd).1 (List.of_mem_zip hv).1,if_neg hk]
  simp
 | p::P,w::vs,i+1,m,nd,h1,h2,hk=>by
  show bindC kindOf ((p,w)::P.zip vs) m x=_
  unfold bindC
  exact pG (i:=i) (List.nodup_cons.mp nd).2 (by simpa using h1) (by simpa using h2) hk
noncomputable def start (N:List Str) (vs:List V):St:=vs.map some++ak (N.length - vs.length) none
noncomputable def aDs (CX:CXT) (P:Program) (w:World) (K:PySem.W.Frag) (mg:Str->Option Value) (base:Heap) (N:List Str) (qual:Str) (scope:Scope) (f:Addr) (cd:Value) (A:Around) (outer:List Env) (s:Shared) (H:Hp) (E:XK):Cx where
 prog:=P
 w:=w
 K:=K
 mg:=mg
 base:=base
 A:=A.deeper (envOfC qual scope s.heap.objs.size f cd)
 N:=N
 s₀:=s
 H₀:=H
 env:=envOfC qual scope s.heap.objs.size f cd
 outer:=outer
 stack:=envOfC qual scope s.heap.objs.size f cd::outer
 ex:=[]
 calm:=true
 fn:=fun _=>true
 pn:=[]
 xe:=fun e s'=>wpAny (model P w) (A.deeper (envOfC qual scope s.heap.objs.size f cd)) (leaving (envOfC qual scope s.heap.objs.size f cd) e) (fun _ s''=>CX outer H s E e s'') (fun e' s''=>CX outer H s E e' s'') s'
theorem tD {sc:Scope} {n:Nat} {x:Str} (h:sc.names.lookup x=some .cell): ∃ c,(cellsFrom n sc.names []).lookup x=some c:=by
 have q:=PySem.W.cellsFrom_some sc.names n [] (.inl h)
 exact Option.isSome_iff_exists.mp q
theorem wU {CX:CXT} {P:Program} {w:World} {K:PySem.W.Frag} {mg:Str->Option Value} {base:Heap} {N ps:List Str} {qual:Str} {scope:Scope} {f:Addr} {cd:Value} {A:Around} {outer:List Env} {s s1:Shared} {H:Hp} {E:XK} {us:List Value} {vs:List V}
  (S:FnScope N ps scope) (hd:A.handled=none) (e0:Env0 P w K mg base A outer s H) (hl:vs.length=ps.length) (r:bI vs us)
  (x:InCallC s s.heap.objs.size (bindL (envOfC qual scope s.heap.objs.size f cd).kindOf (ps.zip us) fun _=>none) (cellsFrom (s.heap.objs.size+1) scope.names []) (bindC (envOfC qual scope s.heap.objs.size f cd).kindOf (ps.zip us) fun _=>none) s1):
  Inv (aDs CX P w K mg base N qual scope f cd A outer s H E) [] (start N vs) H s1:=by
 have hpl:ps.length<=N.length:=by have:=congrArg List.length S.pre;rw [List.length_take] at this;omega
 obtain⟨h1,tk,rfl,hk⟩:=x.done
 have noA: ∀ b:Addr,b∉(aDs CX P w K mg base N qual scope f cd A outer s H E).ex:=fun b z=>absurd (show b∈([]:List Addr) from z) (by simp)
 refine⟨⟨e0.mod,S.kind,rfl,rfl,aj _,fun y z c h1 h2=> ?_,fun y hy=> ?_,fun y c _ h=> ?_,fun _=>hd,Around.frames_deeper e0.frames, .inr ⟨rfl,rfl⟩,fun b z=>absurd z (noA b),e0.bs,e0.bsz,fun b _ _=>noA b,fun b z=>absurd z (noA b),e0.funs,e0.frf⟩,
  rfl,e0.bare,Un.kept hk,⟨_,x.toInCall.ns,fun i y v h1 h2 h3=> ?_⟩,fun y c h=>⟨_,x.cell y c h⟩,e0.hok.fresh (aj _),fun y c h=> ?_,fun p hp=>absurd (show p∈([]:List (Addr×Obj)) from hp) (by simp),e0.hok.kept hk, ?_⟩
 ·exact name_of_addr x.apart (PySem.mem_of_lookup h1) (PySem.mem_of_lookup h2)
 ·have hy:scope.names.lookup y=some .cell\/scope.names.lookup y=some .free:=hy
  rcases hy with hy | hy
  ·exact tD hy
  ·exact absurd rfl (S.nofree _ (PySem.mem_of_lookup hy))
 ·exact Nat.le_of_lt (x.above y c (PySem.mem_of_lookup h))
 ·have hi:i<vs.length:=by
   unfold start at h2
   by_cases hi:i<vs.length
   ·exact hi
   ·rw [bj (by simpa using hi)] at h2
    rw [List.getElem?_replicate] at h2
    split at h2<;>cases h2
  have ha:vs[i]? =some v:=by
   unfold start at h2
   rw [bt (by simpa using hi),List.getElem?_map] at h2
   cases e:vs[i]? with
   | none=>rw [e] at h2;cases h2
   | some a=>rw [e] at h2;cases h2;rfl
  obtain⟨u,hu,rv⟩:=r.get ha
  have hp:ps[i]? =some y:=by
   rw [<-S.pre,List.getElem?_take_of_lt (by omega)];exact h1
  have ndP:ps.Nodup:=by rw [<-S.pre];exact S.nd.sublist (List.take_sublist _ _)
  refine⟨u,rv, ?_⟩
  rcases S.par y (List.mem_of_getElem? hp) with k | k
  ·exact .inl ⟨k,pF ndP hp hu k⟩
  ·obtain⟨c,e⟩:=tD (n:=s.heap.objs.size+1) k
   refine .inr ⟨.inl k,c,e, ?_⟩
   have q:=x.cell y c e
   rw [pG ndP hp hu (by show scope.names.lookup y≠_;rw [k];decide)] at q
   exact q
 ·exact e0.hok.fresh (Nat.le_of_lt (x.above y c (PySem.mem_of_lookup h)))
 ·unfold start
  show _=N.length
  rw [bn,am,List.length_replicate]
  omega
theorem aM1 {CX:CXT} {P:Program} {w:World} {K:PySem.W.Frag} {mg:Str->Option Value} {base:Heap} {k:Nat} {f:Addr} {name qual:Str} {params:Arguments} {body:List Stmt} {scope:Scope} {dV kV doc pm cdv ct oc:Value} {an od:Option Addr}
  {osl:Array (Option Value)} {N ps:List Str} {sp:Sp} (lk:K.lookup f=some ⟨oc,od, .func (PySem.W.fnOf name qual params body scope dV kV doc pm an cdv ct),osl⟩) (hcd:PySem.W.codeIn K cdv qual=true) (S:FnScope N ps scope)
  (len: ∀ vs H Q E,sp vs H Q E->vs.length=ps.length)
  (hbody: ∀ (A:Around) (outer:List Env) (s:Shared) (H:Hp) (vs:List V) (Q:VK) (E:XK),Room k (A.deeper (envOfC qual scope s.heap.objs.size f cdv))->sp vs H Q E->
   ∃ t,PSs (aDs CX P w K mg base N qual scope f cdv A outer s H E) body t/\t { nx:=fun _ H'=>Q .non H',rt:=Q } (start N vs) H):
  FnOk P w K mg base CX (k+1) f (PySem.W.fnOf name qual params body scope dV kV doc pm an cdv ct) ps sp:=by
 refine⟨len,fun A outer s H args us vs Q E hr e0 hb r hsp=> ?_⟩
 have hl:=len _ _ _ _ hsp
 have KX:K.In s.heap:=e0.mod.kin.keeps fun b o e=>(e0.bs b o e).1
 have lim:s.heap.NoLimit:=e0.mod.nolimit.keeps fun b o e=>(e0.bs b o e).1
 have hkind: ∀ y∈ps.zip us,scope.names.lookup y.1=some .local\/(scope.names.lookup y.1=some .cell/\((cellsFrom (s.heap.objs.size+1) scope.names []).lookup y.1).isSome=true):=fun⟨n,v⟩ hy=>by
  rcases S.par n (List.of_mem_zip hy).1 with q | q
  ·exact .inl q
  ·exact .inr ⟨q,PySem.W.cellsFrom_some _ _ _ (.inl q)⟩
 refine codeAny_call_function hr.depth (KX _ _ lk) rfl S.co S.gen rfl (PySem.W.codeRec_of KX hcd) (hb _ _ _ _ ?_)
 refine wpAny_newFunctionEnv_cells S.kind hkind fun env he s1 x=> ?_
 subst he
 refine⟨lim.keeps x.toInCall.keep,codeAny_func ?_⟩
 obtain⟨t,ht,hq⟩:=hbody A outer s H vs Q E (hr.deeper _) hsp
 have I:Inv (aDs CX P w K mg base N qual scope f cdv A outer s H E) [] (start N vs) H s1:=wU S hr.hd e0 hl r x
 refine wpAny_mono (ht [] s1 (start N vs) H _ I hq) (fun fl s' hs=> ?_) fun e s' hs=>hs
 have fin: ∀ {σ':St} {H':Hp} {v:V} {u:Value},Inv (aDs CX P w K mg base N qual scope f cdv A outer s H E) [] σ' H' s'->b9 v u->Q v H'->CE outer P w H s Q u s':=
  fun {σ' H' v u} J rv q=>⟨v,H',J.os,J.bare,J.base,J.hok,rv,q⟩
 cases fl with
 | ret u=>
  obtain⟨v,σ',H',J,rv,q⟩:=hs
  exact fin J rv q
 | next=>
  obtain⟨σ',H',J,q⟩:=hs
  exact fin (v:=V.non) (u:=Value.none) J rfl q
 | brk=>
  obtain⟨_,_,_,q⟩:=hs
  exact ay q
 | cont=>
  obtain⟨_,_,_,q⟩:=hs
  exact ay q
section
variable {X:Cx} {x:Str} {p pos:Pos} {e:Expr} {es:List Expr} {t:TA} {id T:String} {r:List V->Hp->VK->Prop}
noncomputable def tCB (r:List V->Hp->VK->Prop) (t:TA):TE:=fun σ H Q=>t σ H fun vs H1=>r vs H1 Q
theorem aA7 (hc:nN X (.builtin id) r) (hg:Gl X x) (hm:X.mg x=none) (hv:bootBuiltins x=some (.builtin id)) (ha:PA X (e::es) t) (hn:x≠"__name__":=by decide) (hdb:(x==("__debug__":Str))=false:=by decide)
  (he:starEach (e::es) X.env=(false,eval e X.env)::starEach es X.env:=by rfl) (hpl:(backTo pos (starEach es X.env)).any (·.1)=false:=by rfl):PE X (.Call (.Name x p) (e::es) [] pos) (tCB r t):=by
 intro pins s σ H Q I h
 refine wpAny_Call_Name_kw (gU I hg hm hv ?_ hn hdb)
 exact PyProof.Rows.callWith_builtin1 (thn (ha pos pins s σ H _ I h) fun us s1 ⟨vs,H1,I1,r1,q1⟩=>hc pins s1 σ H1 vs us Q I1 r1 q1) he hpl
end
end L2
namespace HT
open PySem PyProof.Rows
section
open PySem.SeqAt
open PySem.AutoSeq1 (wpAny_loadPart')
open PySem.MeetsSeq PySem.MeetsSeq2 PySem.MeetsSeq3
end
section
variable {prog:Program} {w:World} {A:Around} {E:Value->Shared->Prop} {s:Shared}
theorem cat_tup {t b:Addr} {vs ws:List Value} {Q:Value->Shared->Prop} (ht:IsTup s.heap t vs.toArray) (hb:IsTup s.heap b ws.toArray) (hv:vs≠[])
  (h1:ws=[]->Q (.ref t) s) (h2:ws≠[]->Q (.ref s.heap.objs.size) { s with heap:=s.heap.push { cls:= .type "tuple",data:= .seq (vs++ws).toArray } })
  (hsz:vs.length+ws.length<=sizeLine):wpAny (model prog w) A (binaryOp .Add (.ref t) (.ref b)) Q E s:=by
 obtain⟨⟨cls,dd,data,sl⟩,ho,hc,n,hd⟩:=id ht
 obtain⟨⟨cls2,dd2,data2,sl2⟩,ho2,hc2,n2,hd2⟩:=id hb
 simp only at hc hd hc2 hd2
 subst hc hd hc2 hd2
 have e:vs.toArray++ws.toArray=(vs++ws).toArray:=by simp
 by_cases hw:ws=[]
 ·exact concat_meets ⟨_,ho,rfl⟩ ⟨_,ho2,rfl⟩ noFill_tuple_add seq_tuple_add PySem.F.slot_tuple_add PySem.F.entry_tuple_add (PySem.F.args_tuple_add_2 _ _)
   (tuple_addW1 t b vs.toArray ws.toArray n n2 dd dd2 sl sl2 (by simpa using hv) (by simp [hw])) ⟨ho,ho2,h1 hw⟩
 ·refine concat_meets ⟨_,ho,rfl⟩ ⟨_,ho2,rfl⟩ noFill_tuple_add seq_tuple_add PySem.F.slot_tuple_add PySem.F.entry_tuple_add (PySem.F.args_tuple_add_2 _ _)
   (tuple_addW2 t b vs.toArray ws.toArray n n2 dd dd2 sl sl2 (by simpa using hv) (by simpa using hw) (by rw [av,av];exact hsz)) ⟨ho,ho2, ?_⟩
  rw [e]
  exact h2 hw
noncomputable def sIx (n d:Nat):Option Int->Nat
 | none=>d
 | some v=>if v<0 then(v+(n:Int)).toNat else min v.toNat n
theorem aJq (n d:Nat) (hd:d<=n) (o:Option Int):sIx n d o<=n:=by
 cases o with
 | none=>exact hd
 | some v=>
  show(if v<0 then(v+(n:Int)).toNat else min v.toNat n)<=n
  by_cases hv:v<0
  ·rw [if_pos hv];omega
  ·rw [if_neg hv];exact Nat.min_le_right _ _
theorem wV (v:Int) (n d:Nat):(if v<0 then max (v+(n:Int)) 0 else min v (n:Int))=((sIx n d (some v):Nat):Int):=by
 show(if v<0 then max (v+(n:Int)) 0 else min v (n:Int))=(((if v<0 then(v+(n:Int)).toNat else min v.toNat n):Nat):Int)
 by_cases hv:v<0
 ·simp only [if_pos hv];omega
 ·simp only [if_neg hv];omega
theorem vL (lo hi:Option Int) (n:Nat):Builtin.Slice.sliceAdjust lo hi 1 (n:Int)=(((sIx n 0 lo:Nat):Int),((sIx n n hi:Nat):Int)):=by
 have h1: ¬ ((1:Int)<0):=by omega
 unfold Builtin.Slice.sliceAdjust
 simp only [h1,if_false]
 refine Prod.ext ?_ ?_
 ·cases lo with
  | none=>rfl
  | some v=>exact wV v n 0
 ·cases hi with
  | none=>rfl
  | some v=>exact wV v n n
theorem vM (i j:Nat):Builtin.Slice.slicePlaces (i:Int) (j:Int) 1=j - i:=by
 unfold Builtin.Slice.slicePlaces
 have h1:(1:Int) > 0:=by omega
 simp only [h1,if_true,Int.ediv_one]
 split<;>omega
theorem mF {v:Value} {o:Option Int} {Q:Option Int->Shared->Prop} (p:IsPart v o) (h:Q o s):wpAny (model prog w) A (Builtin.Slice.slicePartIndex v) Q E s:=by
 cases p with
 | none=>exact slicePart_none h
 | int i t=>exact slicePart_int h
theorem sliceApplied_gen {sl:Addr} {vl vu:Value} {lo hi:Option Int} {n:Nat} {Q:Int×Int×Nat->Shared->Prop} (hs:s.heap.IsSliceOf sl vl vu .none) (pl:IsPart vl lo) (pu:IsPart vu hi)
  (h:Q (((sIx n 0 lo:Nat):Int),1,sIx n n hi - sIx n 0 lo) s):wpAny (model prog w) A (Builtin.Slice.sliceApplied (.ref sl) (pure (n:Int))) Q E s:=by
 obtain⟨os,hos,hcs,hds⟩:=id hs
 unfold Builtin.Slice.sliceApplied Builtin.Slice.sliceFields
 refine aa (aa (wpAny_field hos hds (x:=vl) rfl (aa (wpAny_field hos hds (x:=vu) rfl (aa (wpAny_field hos hds (x:= .none) rfl (ae ?_)))))))
 refine aa (slicePart_none ?_)
 show wpAny _ _ (if((1:Int)==0)=true then _ else _) _ _ s
 rw [if_neg (by decide)]
 refine aa (mF pl (aa (mF pu (aa (ae ?_)))))
 show wpAny _ _ (match Builtin.Slice.sliceAdjust lo hi 1 (n:Int) with | (lo,hi)=>pure (lo,(1:Int),Builtin.Slice.slicePlaces lo hi 1)) _ _ s
 rw [vL lo hi n]
 show wpAny _ _ (pure (((sIx n 0 lo:Nat):Int),(1:Int),Builtin.Slice.slicePlaces ((sIx n 0 lo:Nat):Int) ((sIx n n hi:Nat):Int) 1)) _ _ s
 rw [vM]
 exact ae h
theorem aA8 (xs:Array Value) (i k:Nat):((List.range k).filterMap fun(m:Nat)=>xs[((i:Int)+(m:Int) * 1).toNat]?).toArray=((xs.toList.drop i).take k).toArray:=by
 have e:(fun(m:Nat)=>xs[((i:Int)+(m:Int) * 1).toNat]?)=fun m=>xs[i+m]? :=by
  funext m
  have:((i:Int)+(m:Int) * 1).toNat=i+m:=by omega
  rw [this]
 rw [e]
 have:=pick_run xs i k
 rw [List.filterMap_map] at this
 have e2:((fun x=>xs[x]?) ∘ fun x=>i+x)=fun m=>xs[i+m]? :=rfl
 rw [e2] at this
 rw [this]
theorem getItem_tuple_cut {t sl:Addr} {items:Array Value} {vl vu:Value} {lo hi:Option Int} {Q:Value->Shared->Prop} (ht:IsTup s.heap t items) (hs:s.heap.IsSliceOf sl vl vu .none) (pl:IsPart vl lo) (pu:IsPart vu hi)
  (hw: ¬ (sIx items.size 0 lo=0/\sIx items.size items.size hi=items.size))
  (h:Q (.ref s.heap.objs.size) { s with heap:=s.heap.push { cls:= .type "tuple",data:= .seq ((items.toList.drop (sIx items.size 0 lo)).take (sIx items.size items.size hi - sIx items.size 0 lo)).toArray } })
  (hsz:items.size<=sizeLine):wpAny (model prog w) A (getItem (.ref t) (.ref sl)) Q E s:=by
 have htake:sizeOk (.seq ((items.toList.drop (sIx items.size 0 lo)).take (sIx items.size items.size hi - sIx items.size 0 lo)).toArray):=by
  show((items.toList.drop (sIx items.size 0 lo)).take (sIx items.size items.size hi - sIx items.size 0 lo)).toArray.size<=sizeLine
  rw [av,List.length_take,List.length_drop,Array.length_toList]
  omega
 have hj:sIx items.size items.size hi<=items.size:=aJq _ _ (aj _) hi
 obtain⟨os,hos,hcs,hds⟩:=id hs
 have hTs:s.TypeIs (.ref sl) "slice":=⟨os,hos,hcs⟩
 unfold getItem
 try with_reducible refine wpAny_holding ?_
 first | refine aa (ae ?_) | skip
 refine aa (wpAny_sequenceKey ht.typeIs (by decide) ?_)
 refine aa (wpAny_callSpecial?_slot (name:=Str.ofString "__getitem__") ht.typeIs PyProof.Rows.slot_tuple_getitem
  (wpAny_call_entry PyProof.Rows.slot_tuple_getitem ht.typeIs entry_tuple_getitem ?_ (args_tuple_getitem _ _)))
 show wpAny _ _ (Builtin.Tuple.tupleItemsOf (.ref t) >>= _) _ _ s
 refine aa (tupleItemsOf_ ht ?_)
 refine aa (wpAny_typeOf hTs ?_)
 rw [if_pos (by decide)]
 refine aa (sliceApplied_gen hs pl pu ?_)
 have hno: ¬ ((((sIx items.size 0 lo:Nat):Int)==0&&(1:Int)==1&&(sIx items.size items.size hi - sIx items.size 0 lo)==items.size)=true):=by
  intro q
  rw [au,au] at q
  have q1:((sIx items.size 0 lo:Nat):Int)=0:=eq_of_beq q.1.1
  have q2:sIx items.size items.size hi - sIx items.size 0 lo=items.size:=eq_of_beq q.2
  exact hw ⟨by omega,by omega⟩
 show wpAny _ _ (if(((sIx items.size 0 lo:Nat):Int)==0&&(1:Int)==1&&(sIx items.size items.size hi - sIx items.size 0 lo)==items.size)=true then _ else _) _ _ s
 rw [if_neg hno,aA8]
 first
  | exact aa (m:=Builtin.Tuple.tupleExact _) (wpAny_newObj_type (ae ⟨_,rfl,ae h⟩) htake)
  | exact aa (m:=Builtin.Tuple.tupleExact _) (wpAny_newObj_type (aa (ae (ae ⟨_,rfl,ae h⟩))) htake)
  | exact aa (aa (m:=Builtin.Tuple.tupleExact _) (wpAny_newObj_type (ae (ae ⟨_,rfl,ae h⟩)) htake))
  | exact aa (aa (m:=Builtin.Tuple.tupleExact _) (wpAny_newObj_type (ae ⟨_,rfl,ae h⟩) htake))
end
end HT
namespace L2
open PySem PySem.Spec PyProof.Rows
abbrev TO:=St->Hp->(Option Int->Hp->Prop)->Prop
section
variable {X:Cx} {e:Expr} {te:TE} {lo hi:Option Expr} {tl th:TO} {pos p2:Pos}
def SlR (X:Cx) (r:V->Option Int->Option Int->Hp->VK->Prop):Prop:=
 ∀ (pins:List (Addr×Obj)) (s:Shared) (σ:St) (H:Hp) (x:V) (v vl vu:Value) (lo hi:Option Int) (sl:Addr) (Q:VK),Inv X pins σ H s->b9 x v->s.heap.IsSliceOf sl vl vu .none->IsPart vl lo->IsPart vu hi->r x lo hi H Q->
  ∃ T id,typeLookup (.type T) "__getitem__"=pure (some (.builtin id))/\s.TypeIs v T/\wpAny (model X.prog X.w) X.A (getItem v (.ref sl)) (EP X pins σ Q) X.xe s
noncomputable def tF (xs:List V) (lo hi:Option Int):List V:=(xs.drop (HT.sIx xs.length 0 lo)).take (HT.sIx xs.length xs.length hi - HT.sIx xs.length 0 lo)
theorem kN (xs:List V) (lo hi:Option Int):(tF xs lo hi).length<=xs.length:=by
 unfold tF
 rw [List.length_take,List.length_drop]
 omega
noncomputable def aPj (K:PySem.W.Frag):V->Option Int->Option Int->Hp->VK->Prop:=fun x lo hi H Q=> ∃ a xs,x= .ref a/\SqT K H a xs/\
 ¬ (HT.sIx xs.length 0 lo=0/\HT.sIx xs.length xs.length hi=xs.length)/\ ∀ p,H p=none->Q (.ref p) (upd H p (.tup (tF xs lo hi)))
theorem aJr:SlR X (aPj X.K):=by
 intro pins s σ H x v vl vu lo hi sl Q I rx hs pl pu h
 obtain⟨a,xs,rfl,hx,hw,q⟩:=h
 cases rx
 obtain⟨its,r,ht,hz⟩:=I.tuple hx
 have hlen:its.toArray.size=xs.length:=by rw [av];exact r.length.symm
 refine⟨"tuple",_,PyProof.Rows.slot_tuple_getitem.lookup,ht.typeIs, ?_⟩
 refine HT.getItem_tuple_cut ht hs pl pu (by rw [hlen];exact hw) ?_ (by rw [hlen];exact hz)
 rw [hlen]
 refine⟨.ref s.heap.objs.size,_,I.laid (t':=s.toks) (o:= .tup (tF xs lo hi)) (fun b ob q=>af _ q) (aj _) ?_,rfl,q _ (I.hok.fresh (aj _))⟩
 exact⟨Nat.le_trans (kN xs lo hi) hz,_,(r.drop (HT.sIx xs.length 0 lo)).take (HT.sIx xs.length xs.length hi - HT.sIx xs.length 0 lo),IsTup.new _ _,⟨_,ag _ rfl,rfl⟩⟩
noncomputable def aM2 (K:PySem.W.Frag):R2:=fun x y H Q=> ∃ a b xs ys,x= .ref a/\y= .ref b/\SqT K H a xs/\SqT K H b ys/\xs≠[]/\xs.length+ys.length<=sizeLine/\
 (ys=[]->Q (.ref a) H)/\(ys≠[]-> ∀ p,H p=none->Q (.ref p) (upd H p (.tup (xs++ys))))
theorem bI.nil_iff {xs:List V} {us:List Value} (r:bI xs us):us=[]↔xs=[]:=by
 cases r with
 | nil=>simp
 | cons _ _=>simp
theorem aFd:OpR X (binaryOp .Add) (aM2 X.K):=by
 intro pins s σ H x y v u Q I rx ry h
 obtain⟨a,b,xs,ys,rfl,rfl,ha,hb,hx,hz,q1,q2⟩:=h
 cases rx
 cases ry
 obtain⟨its,r1,p1,_⟩:=I.tuple ha
 obtain⟨its2,r2,p2,_⟩:=I.tuple hb
 refine HT.cat_tup p1 p2 (fun z=>hx (r1.nil_iff.mp z)) (fun z=>⟨.ref a,H,I,rfl,q1 (r2.nil_iff.mp z)⟩) (fun z=> ?_) (by rw [<-r1.length, <-r2.length];exact hz)
 refine⟨.ref s.heap.objs.size,_,I.laid (t':=s.toks) (o:= .tup (xs++ys)) (fun b ob q=>af _ q) (aj _) ?_,rfl,q2 (fun w=>z (r2.nil_iff.mpr w)) _ (I.hok.fresh (aj _))⟩
 exact⟨by rw [bn];exact hz,_,r1.append r2,IsTup.new _ _,⟨_,ag _ rfl,rfl⟩⟩
end
noncomputable def ixN (n:Nat) (i:Int):Option Nat:=if 0<=i then(if i<n then some i.toNat else none) else if -(n:Int)<=i then some (i+n).toNat else none
noncomputable def atI {α:Type} (xs:List α) (i:Int):Option α:=(ixN xs.length i).bind fun j=>xs[j]?
theorem wW {n:Nat} {i:Int} {j:Nat} (h:ixN n i=some j):seqIndex? i n=some j/\j<n/\ -(n:Int)<=i/\i<n:=by
 unfold ixN at h
 by_cases h0:0<=i
 ·rw [if_pos h0] at h
  by_cases h1:i<n
  ·rw [if_pos h1] at h
   have e:i.toNat=j:=Option.some.inj h
   exact⟨by rw [seqIndex_of h0 h1,e],by omega,by omega,h1⟩
  ·rw [if_neg h1] at h;cases h
 ·rw [if_neg h0] at h
  by_cases h1: -(n:Int)<=i
  ·rw [if_pos h1] at h
   have e:(i+n).toNat=j:=Option.some.inj h
   exact⟨by rw [seqIndex_neg (by omega) h1,e],by omega,h1,by omega⟩
  ·rw [if_neg h1] at h;cases h
theorem wX {α:Type} {xs:List α} {i:Int} {v:α} (h:atI xs i=some v): ∃ j,seqIndex? i xs.length=some j/\xs[j]? =some v/\j<xs.length/\ -(xs.length:Int)<=i/\i<xs.length:=by
 unfold atI at h
 cases e:ixN xs.length i with
 | none=>rw [e] at h;cases h
 | some j=>
  rw [e] at h
  obtain⟨h1,h2,h3,h4⟩:=wW e
  exact⟨j,h1,h,h2,h3,h4⟩
def wY (b:Expr):Prop:= ∀ o i,subscripted b false o i=operate [o,i] (getItem o i)
def IxR (X:Cx) (r:R2):Prop:=
 ∀ (value slice:Expr) (pins:List (Addr×Obj)) (s:Shared) (σ:St) (H:Hp) (x y:V) (v u:Value) (Q:VK),Inv X pins σ H s->b9 x v->b9 y u->r x y H Q->
  subscripted slice false v u=operate [v,u] (getItem v u)->wpAny (model X.prog X.w) X.A (subscriptTail value slice v u) (EP X pins σ Q) X.xe s
def MtR (X:Cx) (id:String) (r:V->List V->Hp->VK->Prop):Prop:=
 ∀ (pins:List (Addr×Obj)) (s:Shared) (σ:St) (H:Hp) (x:V) (xs:List V) (v:Value) (us:List Value) (Q:VK),Inv X pins σ H s->b9 x v->bI xs us->r x xs H Q->
  wpAny (model X.prog X.w) X.A (call (.builtin id) (v::us)) (EP X pins σ Q) X.xe s
section
variable {X:Cx} {a b:Expr} {ta tb:TE} {pos:Pos}
noncomputable def aOm (K:PySem.W.Frag):R2:=fun x y H Q=> ∃ p xs i v,x= .ref p/\y= .int i/\SqL K H p xs/\atI xs i=some v/\Q v H
noncomputable def aOn (K:PySem.W.Frag):R2:=fun x y H Q=> ∃ p xs i v,x= .ref p/\y= .int i/\SqT K H p xs/\atI xs i=some v/\Q v H
noncomputable def aPk:R2:=fun x y H Q=> ∃ z i c,x= .str z/\y= .int i/\z.length<=sizeLine/\atI z.cps.toList i=some c/\Q (.str ⟨#[c]⟩) H
theorem aFe:IxR X (aOm X.K):=by
 intro value slice pins s σ H x y v u Q I rx ry h hs
 obtain⟨p,xs,i,z,rfl,rfl,hq,he,q⟩:=h
 cases rx
 obtain⟨t,rfl⟩:=ry
 obtain⟨its,r,pl,hz⟩:=I.list hq
 obtain⟨j,h1,h2,h3,h4,h5⟩:=wX he
 obtain⟨w,ew,rw'⟩:=r.get h2
 have hl:=r.length
 have hn:=sZ
 have fin:EP X pins σ Q w s:=⟨z,H,I,rw',q⟩
 by_cases h0:0<=i
 ·have hj:i.toNat=j:=by
   rw [seqIndex_of h0 h5] at h1
   exact Option.some.inj h1
  exact item_listR pl.isList h0 (by omega) (by rw [hj];simpa using ew) fin hs
 ·have hj:(i+(its.toArray.size:Int)).toNat=j:=by
   rw [seqIndex_neg (by omega) h4] at h1
   rw [av, <-hl]
   exact Option.some.inj h1
  exact subscriptTail_builtinR (x:=w) pl.isList.typeIs slot_list_getitem.lookup
   (wpAny_getItem_list_neg (Q:=fun r s'=>r=w/\EP X pins σ Q r s') pl.isList (by omega) (by rw [av]<;>omega) (by omega) (by rw [hj];simpa using ew) ⟨rfl,fin⟩) hs
theorem aJs:IxR X (aOn X.K):=by
 intro value slice pins s σ H x y v u Q I rx ry h hs
 obtain⟨p,xs,i,z,rfl,rfl,hq,he,q⟩:=h
 cases rx
 obtain⟨t,rfl⟩:=ry
 obtain⟨its,r,pl,hz⟩:=I.tuple hq
 obtain⟨j,h1,h2,h3,h4,h5⟩:=wX he
 obtain⟨w,ew,rw'⟩:=r.get h2
 have hl:=r.length
 have hn:=sZ
 have fin:EP X pins σ Q w s:=⟨z,H,I,rw',q⟩
 exact subscriptTail_builtinR (x:=w) pl.typeIs slot_tuple_getitem.lookup
  (getItem_tuple (j:=j) (Q:=fun r s'=>r=w/\EP X pins σ Q r s') pl (by omega) (by omega) (by rw [av, <-hl];exact h1) (by simpa using ew) ⟨rfl,fin⟩) hs
noncomputable def rIx (K:PySem.W.Frag):R2:=fun x y H Q=>aOm K x y H Q\/aOn K x y H Q\/aPk x y H Q
theorem vN (its:List Value) (n j:Nat) (u:Value):Obj.mapSeq (·.setIfInBounds j u) { cls:= .type "list",data:= .seq its.toArray n }={ cls:= .type "list",data:= .seq (its.set j u).toArray n }:=by
 simp [Obj.mapSeq]
theorem Inv.lst {pins:List (Addr×Obj)} {σ:St} {H:Hp} {s:Shared} {p:Addr} {xs:List V} (I:Inv X pins σ H s) (h:H p=some (.lst xs)):
  ∃ (its:List Value) (n:Nat),bI xs its/\s.heap.get? p=some { cls:= .type "list",data:= .seq its.toArray n }/\xs.length<=sizeLine:=by
 obtain⟨z,its,n,r,e⟩:=I.hok p _ h
 exact⟨its,n,r,e,z⟩
theorem Inv.lstUpd {pins:List (Addr×Obj)} {σ:St} {H:Hp} {s:Shared} {p:Addr} {xs ys:List V} {its its':List Value} {n n':Nat} {f:Obj->Obj} (I:Inv X pins σ H s) (h:H p=some (.lst xs))
  (ho:s.heap.get? p=some { cls:= .type "list",data:= .seq its.toArray n }) (hf:f { cls:= .type "list",data:= .seq its.toArray n }={ cls:= .type "list",data:= .seq its'.toArray n' }) (r:bI ys its') (hz:ys.length<=sizeLine) (t:Nat):
  Inv X pins σ (upd H p (.lst ys)) { s with heap:=s.heap.update p f,toks:=t }:=by
 have e:(s.heap.update p f).get? p=some { cls:= .type "list",data:= .seq its'.toArray n' }:=by
  rw [Heap.get?_update_self f ho (by rw [hf]<;>rfl),hf]
 refine I.write (x:=p) (e:=p) (by rw [h];trivial) (.inl rfl) (fun b u hb q=>(Heap.get?_update_other _ _ (Ne.symm hb)).trans q) ⟨_,e⟩ ?_
 exact⟨hz,its',n',r,e⟩
noncomputable def aM3:V->V->V->Hp->(Hp->Prop)->Prop:=fun o i v H Q=> ∃ p xs k j,o= .ref p/\i= .int k/\H p=some (.lst xs)/\ixN xs.length k=some j/\Q (upd H p (.lst (xs.set j v)))
theorem aA9:aOl X aM3:=by
 intro pins s σ H o i v ov iv u Q I ro ri rv h
 obtain⟨p,xs,k,j,rfl,rfl,hp,hj,q⟩:=h
 cases ro
 obtain⟨t,rfl⟩:=ri
 obtain⟨its,n,r,ho,hz⟩:=I.lst hp
 obtain⟨h1,h2,h3,h4⟩:=wW hj
 have hl:=r.length
 have hn:=sZ
 have I':Inv X pins σ (upd H p (.lst (xs.set j v))) { s with heap:=s.heap.update p (Obj.mapSeq (·.setIfInBounds j u)) }:=
  I.lstUpd hp ho (vN its n j u) (r.set rv j) (by rw [List.length_set];exact hz) s.toks
 by_cases h0:0<=k
 ·have hk:k.toNat=j:=by
   rw [seqIndex_of h0 h4] at h1
   exact Option.some.inj h1
  exact PySem.W.ki_setAt ho h0 (by omega) (by rw [av, <-hl];exact h4) (by rw [hk];exact⟨_,I',q⟩)
 ·have hk:(k+(its.toArray.size:Int)).toNat=j:=by
   rw [seqIndex_neg (by omega) h3] at h1
   rw [av, <-hl]
   exact Option.some.inj h1
  exact PySem.W.ki_setBack ho (by omega) (by rw [av, <-hl];exact h3) (by omega) (by rw [hk];exact⟨_,I',q⟩)
theorem pH (lo hi:Option Int) (n:Nat):(sliceBounds lo hi none n).1=((HT.sIx n 0 lo:Nat):Int)/\(sliceBounds lo hi none n).2.1=((HT.sIx n n hi:Nat):Int)/\(sliceBounds lo hi none n).2.2=1:=by
 refine⟨?_, ?_,rfl⟩
 ·cases lo with
  | none=>simp [sliceBounds,HT.sIx]
  | some i=>
   simp only [sliceBounds,HT.sIx,Option.getD_none,show(1:Int) > 0 by decide,if_true]
   by_cases h:i<0
   ·simp only [h,if_true]<;>omega
   ·simp only [h,if_false]<;>omega
 ·cases hi with
  | none=>simp [sliceBounds,HT.sIx]
  | some i=>
   simp only [sliceBounds,HT.sIx,Option.getD_none,show(1:Int) > 0 by decide,if_true]
   by_cases h:i<0
   ·simp only [h,if_true]<;>omega
   ·simp only [h,if_false]<;>omega
theorem nP (its:List Value) (lo hi:Option Int):slicePick its.toArray lo hi none=((its.drop (HT.sIx its.length 0 lo)).take (HT.sIx its.length its.length hi - HT.sIx its.length 0 lo)).toArray:=by
 obtain⟨h1,h2,h3⟩:=pH lo hi its.toArray.size
 unfold slicePick
 rw [h1,h2,h3]
 simp only [sliceRange_one,pick_run,av]<;>rfl
noncomputable def aPl (K:PySem.W.Frag):V->Option Int->Option Int->Hp->VK->Prop:=fun x lo hi H Q=> ∃ a xs,x= .ref a/\SqL K H a xs/\ ∀ p,H p=none->Q (.ref p) (upd H p (.lst (tF xs lo hi)))
theorem aFf:SlR X (aPl X.K):=by
 intro pins s σ H x v vl vu lo hi sl Q I rx hs pl pu h
 obtain⟨a,xs,rfl,hx,q⟩:=h
 cases rx
 obtain⟨its,r,ht,hz⟩:=I.list hx
 have hlen:=r.length
 refine⟨"list",_,slot_list_getitem.lookup,ht.isList.typeIs, ?_⟩
 refine wpAny_getItem_list_slice ht.isList hs pl pu .none (by simp) ?_ (by rw [av]<;>omega)
 rw [nP, <-hlen]
 refine⟨.ref s.heap.objs.size,_,I.laid (t':=s.toks) (o:= .lst (tF xs lo hi)) (fun b ob q=>af _ q) (aj _) ?_,rfl,q _ (I.hok.fresh (aj _))⟩
 exact⟨Nat.le_trans (kN xs lo hi) hz,_,0,(r.drop (HT.sIx xs.length 0 lo)).take (HT.sIx xs.length xs.length hi - HT.sIx xs.length 0 lo),ag _ rfl⟩
theorem pI:nN X (.builtin "len") (fun xs H Q=> ∃ p ys,xs=[.ref p]/\(SqL X.K H p ys\/SqT X.K H p ys)/\Q (.int ys.length) H):=by
 intro pins s σ H xs us Q I r h
 obtain⟨p,ys,rfl,hq,q⟩:=h
 obtain⟨u,rfl,rx⟩:=nO r
 cases rx
 have hn:=sZ
 rcases hq with hq | hq
 ·obtain⟨its,r',pl,hz⟩:=I.list hq
  have hlen:=r'.length
  exact Calls.call_len_list pl.isList (by simp only [av]<;>omega) ⟨.int ys.length,H,I.tok _,⟨s.toks+1,by rw [av,hlen]⟩,q⟩
 ·obtain⟨its,r',pl,hz⟩:=I.tuple hq
  have hlen:=r'.length
  exact len_tuple pl (by simp only [av]<;>omega) ⟨.int ys.length,H,I.tok _,⟨s.toks+1,by rw [av,hlen]⟩,q⟩
theorem pJ:nN X (.type "list") (fun xs H Q=> ∃ p ys,xs=[.ref p]/\(SqL X.K H p ys\/SqT X.K H p ys)/\ ∀ l,H l=none->Q (.ref l) (upd H l (.lst ys))):=by
 intro pins s σ H xs us Q I r h
 obtain⟨p,ys,rfl,hq,q⟩:=h
 obtain⟨u,rfl,rx⟩:=nO r
 cases rx
 have fin: ∀ (its:List Value),bI ys its->ys.length<=sizeLine-> ∀ (h':Heap) (c':Nat),(∀ b o',s.heap.get? b=some o'->h'.get? b=some o')->
   h'.get? s.heap.objs.size=some { cls:= .type "list",dict:=none,data:= .seq its.toArray c',slots:= #[] }->EP X pins σ Q (.ref s.heap.objs.size) { s with heap:=h' }:=fun its r' hz h' c' kp e=>
  ⟨.ref s.heap.objs.size,_,I.laid (t':=s.toks) kp (aj _) (show ObjOk X.prog X.w _ h' _ (.lst ys) from⟨hz,its,c',r',e⟩),rfl,q _ (I.hok.fresh (aj _))⟩
 rcases hq with hq | hq
 ·obtain⟨its,r',pl,hz⟩:=I.list hq
  have hlen:=r'.length
  obtain⟨o,ho,hc,n,hd⟩:=pl.isList
  exact call_list_seq p (.inl rfl) ho hc hd (fun h' c' kp e=>fin its r' hz h' c' kp e) (by simp only [av]<;>omega)
 ·obtain⟨its,r',pl,hz⟩:=I.tuple hq
  have hlen:=r'.length
  obtain⟨o,ho,hc,n,hd⟩:=pl
  exact call_list_seq p (.inr rfl) ho hc hd (fun h' c' kp e=>fin its r' hz h' c' kp e) (by simp only [av]<;>omega)
theorem iJ:nN X (.type "tuple") (fun xs H Q=> ∃ p ys,xs=[.ref p]/\((SqL X.K H p ys/\ ∀ l,H l=none->Q (.ref l) (upd H l (.tup ys)))\/(SqT X.K H p ys/\Q (.ref p) H))):=by
 intro pins s σ H xs us Q I r h
 obtain⟨p,ys,rfl,h⟩:=h
 obtain⟨u,rfl,rx⟩:=nO r
 cases rx
 rcases h with ⟨hq,q⟩ | ⟨hq,q⟩
 ·obtain⟨its,r',pl,hz⟩:=I.list hq
  have hlen:=r'.length
  refine call_tuple_list pl.isList (fun h' kp=> ?_) (by simp only [av]<;>omega)
  have I1:Inv X pins σ H { s with heap:=h' }:=I.kept (t':=s.toks) kp
  have I2:Inv X pins σ (upd H h'.objs.size (.tup ys)) { s with heap:=h'.push { cls:= .type "tuple",data:= .seq its.toArray } }:=
   I1.laid (t':=s.toks) (fun b o e=>af _ e) (aj _) (show ObjOk X.prog X.w _ _ _ (.tup ys) from⟨hz,its,r',IsTup.new _ _,⟨_,ag _ rfl,rfl⟩⟩)
  exact⟨.ref h'.objs.size,_,I2,rfl,q _ (I1.hok.fresh (aj _))⟩
 ·obtain⟨its,r',pl,hz⟩:=I.tuple hq
  exact call_tuple_same pl ⟨.ref p,H,I,rfl,q⟩
def tyV (K:PySem.W.Frag) (T:String) (x:V) (H:Hp):Prop:=match x with
 | .str _=>T="str"
 | .int _=>T="int"
 | .ref p=>(T="list"/\ ∃ xs,SqL K H p xs)\/(T="tuple"/\ ∃ o,K.lookup p=some o/\o.cls= .type "tuple"/\o.dict=none)\/
   (T="dict"/\((∃ kvs,H p=some (.dK kvs))\/ ∃ kvs,H p=some (.dT kvs)))\/(T="set"/\ ∃ S n,H p=some (.set S n))
 | _=>False
theorem aJt {pins:List (Addr×Obj)} {σ:St} {H:Hp} {s:Shared} {T:String} {x:V} {v:Value} (I:Inv X pins σ H s) (r:b9 x v) (ty:tyV X.K T x H):
  s.TypeIs v T/\ ∀ a,v= .ref a-> ∃ ob,s.heap.get? a=some ob/\ob.dict=none:=by
 cases x with
 | str z=>
  obtain⟨t,rfl⟩:=r
  cases (show T="str" from ty)
  exact⟨typeIs_str s z t,fun _ e=>nomatch e⟩
 | int i=>
  obtain⟨t,rfl⟩:=r
  cases (show T="int" from ty)
  exact⟨typeIs_int s i t,fun _ e=>nomatch e⟩
 | ref p=>
  cases r
  rcases ty with ⟨rfl,xs,hq⟩ | ⟨rfl,o,hk,hc,hd⟩ | ⟨rfl,hk⟩ | ⟨rfl,S,n,hk⟩
  ·obtain⟨its,_,pl,_⟩:=I.list hq
   refine⟨pl.isList.typeIs,fun a e=> ?_⟩
   cases e
   obtain⟨o,n,e,c,hd,_⟩:=pl
   exact⟨o,e,hd⟩
  ·refine⟨⟨o,I.kIn p o hk,hc⟩,fun a e=> ?_⟩
   cases e
   exact⟨o,I.kIn _ o hk,hd⟩
  ·have z: ∃ o,s.heap.get? p=some o/\o.ExactDict:=by
    rcases hk with ⟨kvs,hk⟩ | ⟨kvs,hk⟩
    ·obtain⟨_,_,_,_,o,_,_,e,ex,_⟩:=I.hok p _ hk
     exact⟨o,e,ex⟩
    ·obtain⟨_,_,_,_,o,_,_,e,ex,_⟩:=I.hok p _ hk
     exact⟨o,e,ex⟩
   obtain⟨o,e,ex⟩:=z
   refine⟨⟨o,e,ex.1⟩,fun a e2=> ?_⟩
   cases e2
   exact⟨o,e,ex.2.1⟩
  ·obtain⟨o,_,_,_,e,ex,_⟩:=I.hok p _ hk
   refine⟨⟨o,e,ex.1⟩,fun a e2=> ?_⟩
   cases e2
   exact⟨o,e,ex.2.1⟩
 | _=>exact ay ty
noncomputable def tBM (K:PySem.W.Frag) (T:String) (r:V->List V->Hp->VK->Prop) (to:TE) (t:TA):TE:=fun σ H Q=>to σ H fun x H1=>tyV K T x H1/\t σ H1 fun xs H2=>r x xs H2 Q
variable {o e:Expr} {es:List Expr} {to:TE} {t:TA} {name:Str} {apos cpos:Pos} {T id:String} {r:V->List V->Hp->VK->Prop}
theorem aFg (pa:PlainAttrs T) (slot:Slot T name id) (hty:typeOf (.builtin id)=pure (.type "method_descriptor")) (hm:MtR X id r) (ho:PE X o to) (ha:PA X (e::es) t)
  (hbase:attributeBase o name X.env (eval o X.env)=eval o X.env:=by rfl)
  (hfew:((backTo cpos (starEach (e::es) X.env)).all (fun x=> !x.1)&&(backToKw cpos (keywordEach [] X.env)).all (fun x=>x.1.isSome)
   &&decide ((e::es).length+([]:List Keyword).length+(if([]:List Keyword).isEmpty then 0 else 1)<30))=true:=by rfl)
  (hline:(apos.endLine==cpos.line)=true:=by rfl) (hs:starEach (e::es) X.env=(false,eval e X.env)::starEach es X.env:=by rfl) (hplain:(backTo cpos (starEach es X.env)).any (·.1)=false:=by rfl):
  PE X (.Call (.Attribute o name apos) (e::es) [] cpos) (tBM X.K T r to t):=by
 intro pins s σ H Q I h
 refine wpAny_Call_method_late hbase hfew hline rfl (thn (ho pins s σ H _ I h) fun v s1 hz_=> ?_)
 obtain⟨x,H1,I1,r1,ty,q1⟩:=hz_
 obtain⟨h1,h2⟩:=aJt I1 r1 ty
 refine⟨T,id,pa,slot,hty,h1,h2, ?_⟩
 have hA:=ha cpos pins s1 σ H1 _ I1 q1
 rw [hs] at hA ⊢
 refine Calls.callWith_builtin (by show(false||(backTo cpos (starEach es X.env)).any (·.1))=false;rw [hplain]<;>rfl) (Calls.evalArgs_plain ?_)
 exact thn hA fun us s2 ⟨vs,H2,I2,r2,q2⟩=>hm pins s2 σ H2 x vs v us Q I2 r1 r2 q2
end
def MtM (X:Cx) (id:String) (r:V->List V->Hp->VK->Prop):Prop:=
 ∀ (pins:List (Addr×Obj)) (s:Shared) (σ:St) (H:Hp) (x:V) (xs:List V) (v:Value) (us:List Value) (Q:VK),Inv X pins σ H s->b9 x v->bI xs us->r x xs H Q->
  wpAny (model X.prog X.w) X.A (call (.builtin id) (v::us)) (EP X pins σ Q) X.xe s
theorem bI.one: ∀ {x:V} {us:List Value},bI [x] us-> ∃ u,us=[u]/\b9 x u
 | _,_, .cons r .nil=>⟨_,rfl,r⟩
theorem bI.two: ∀ {x y:V} {us:List Value},bI [x,y] us-> ∃ u v,us=[u,v]/\b9 x u/\b9 y v
 | _,_,_, .cons r (.cons q .nil)=>⟨_,_,rfl,r,q⟩
theorem bI.reverse {xs:List V} {us:List Value} (h:bI xs us):bI xs.reverse us.reverse:=by
 induction h with
 | nil=>exact .nil
 | cons r t ih=>rw [List.reverse_cons,List.reverse_cons];exact bI.append ih (.cons r .nil)
theorem bI.rep {xs:List V} {us:List Value} (h:bI xs us): ∀ k:Nat,bI (ak k xs).flatten (ak k us).flatten
 | 0=> .nil
 | k+1=>by
  rw [List.replicate_succ,List.replicate_succ,List.flatten_cons,List.flatten_cons]
  exact bI.append h (bI.rep h k)
theorem pK (its:List Value): ∀ (k:Nat) (acc:List Value),
  List.foldl (fun x1 x2=>x1++x2) acc.toArray (ak k its.toArray)=(acc++(ak k its).flatten).toArray
 | 0,acc=>by simp
 | k+1,acc=>by
  have e:acc.toArray++its.toArray=(acc++its).toArray:=by simp
  have e2:(acc++its)++(ak k its).flatten=acc++(ak (k+1) its).flatten:=by
   rw [List.replicate_succ,List.flatten_cons,List.append_assoc]
  rw [<-e2, <-pK its k (acc++its), <-e,List.replicate_succ,List.foldl_cons]
section
variable {X:Cx} {pins:List (Addr×Obj)} {σ:St} {H:Hp} {s:Shared} {l b:Addr} {xs ys zs:List V}
theorem Inv.lset {its its':List Value} {n:Nat} {f:Array Value->Array Value} {t':Nat} (I:Inv X pins σ H s) (hH:H l=some (.lst xs))
  (e:s.heap.get? l=some { cls:= .type "list",data:= .seq its.toArray n }) (hf:f its.toArray=its'.toArray) (hv:bI ys its') (hz:ys.length<=sizeLine):
  Inv X pins σ (upd H l (.lst ys)) { s with heap:=s.heap.update l (Obj.mapSeq f),toks:=t' }:=by
 have q:=PySem.IsL.update e f
 rw [hf] at q
 refine I.write (x:=l) (e:=l) (by rw [hH];exact trivial) (.inl rfl) (fun b' u hb hu=>(Heap.get?_update_other s.heap (Obj.mapSeq f) (Ne.symm hb)).trans hu) ⟨_,q⟩ ?_
 exact⟨hz,its',_,hv,q⟩
theorem Inv.lnew {its:List Value} {t':Nat} (I:Inv X pins σ H s) (hv:bI ys its) (hz:ys.length<=sizeLine):
  Inv X pins σ (upd H s.heap.objs.size (.lst ys)) { s with heap:=s.heap.push { cls:= .type "list",data:= .seq its.toArray },toks:=t' }:=
 I.laid (fun _ _ q=>af _ q) (aj _) ⟨hz,its,0,hv,ag _ rfl⟩
theorem Inv.fresh (I:Inv X pins σ H s):H s.heap.objs.size=none:=I.hok.fresh (aj _)
theorem Inv.lstM (I:Inv X pins σ H s) (hH:H l=some (.lst xs)):xs.length<=sizeLine/\ ∃ (its:List Value) (n:Nat),bI xs its/\xs.length=its.length/\s.heap.get? l=some { cls:= .type "list",data:= .seq its.toArray n }:=by
 obtain⟨z,its,n,r,e⟩:=I.hok l _ hH
 exact⟨z,its,n,r,r.length,e⟩
theorem tG {n:Nat} (h:n<=sizeLine):Builtin.List.listTooLong n=false:=by
 unfold Builtin.List.listTooLong
 exact decide_eq_false (by omega)
end
section
variable {X:Cx}
noncomputable def aFh:V->List V->Hp->VK->Prop:=fun x vs H Q=> ∃ l xs y,x= .ref l/\vs=[y]/\H l=some (.lst xs)/\xs.length<sizeLine/\Q .non (upd H l (.lst (xs++[y])))
theorem pL:MtM X "list.append" aFh:=by
 intro pins s σ H x vs v us Q I rx rv h
 obtain⟨l,xs,y,rfl,rfl,hH,hz,q⟩:=h
 cases rx
 obtain⟨u,rfl,ru⟩:=rv.one
 obtain⟨z,its,n,r,hl,e⟩:=I.lstM hH
 refine call_meets F.slot_list_append ⟨_,e,rfl⟩ F.entry_list_append (F.args_list_append_2 _ _) (PySem.list_append l its.toArray n u (by rw [av];omega)) ⟨e, ?_⟩
 refine⟨.non,_,I.lset (its':=its++[u]) hH e (by simp) (r.append (.cons ru .nil)) ?_,rfl,q⟩
 rw [bn,List.length_singleton]
 omega
theorem rM {α:Type} (xs:List α) (k:Nat):(ak k xs).flatten.length=k * xs.length:=by
 induction k with
 | zero=>simp
 | succ k ih=>rw [List.replicate_succ,List.flatten_cons,bn,ih,Nat.succ_mul,Nat.add_comm]
end
section
variable {prog:Program} {w:World} {A:Around} {E:Value->Shared->Prop} {s:Shared}
end
section
variable {X:Cx}
end
end L2
namespace Att
open PySem PySem.W PySem.Calls PyProof.Rows
theorem kO {P:Params} {h:Heap}: ∀ (ns:List Int) (vs:List Value),WellAll P h vs (ns.map WData.int)->IntsAre vs ns:=by
 intro ns
 induction ns with
 | nil=>
  intro vs w
  rw [List.map_nil] at w
  cases w
  exact .nil
 | cons n ns ih=>
  intro vs w
  rw [List.map_cons] at w
  cases w with
  | cons a b=>
   cases a
   exact .cons _ _ (ih _ b)
theorem wZ {l:OpenLaw} {n:Nat} (hn:l.most=some n) {P:Params} {h:Heap} {args:List WData} {vals:List Value}
  (hpre:l.row.toRowW.claim.pre args=true) (hwl:WellAll P h vals args):
  ∃ a vs ns,vals=[Value.ref a]/\args=[WData.list (ns.map WData.int)]/\h.get? a=some { cls:= .type "list",data:= .seq vs.toArray }/\IntsAre vs ns/\ns.length<=n:=by
 have hsh:WShape.hasAll [] args [.list .int]=true:=(pre_splitW hpre).1
 have hc:l.pre.holds [] { args:=args }=true:=(pre_splitW hpre).2
 obtain⟨d,r,rfl,h1,h2⟩:=hasAllW_cons hsh
 obtain rfl:=hasAllW_nil h2
 obtain⟨xs,rfl,h3⟩:=hasW_list h1
 obtain⟨ns,rfl⟩:=items_int h3
 have hlen:ns.length<=n:=by
  unfold OpenLaw.pre at hc
  have h4:(WTm.not (.lt (.lit (.int (n:Int))) (.len (.arg 0)))).holds [] { args:=[.list (ns.map .int)] }=true:=by
   have h4:=(holds_andW hc).1
   rw [hn] at h4
   exact h4
  have h5:=condW_of h4 (w_not (w_lt w_lit (w_len_list (w_arg rfl))))
  rw [am] at h5
  refine Nat.le_of_not_lt fun q=> ?_
  have q':(n:Int)<((ns.length:Nat):Int):=by omega
  first
   | (rw [decide_eq_true q'] at h5;exact absurd h5 (by decide))
   | (simp at h5;omega)
 cases hwl with
 | cons w1 w2=>
  cases w2
  cases w1 with
  | list ho hall=>exact⟨_,_,ns,rfl,rfl,ho,kO ns _ hall,hlen⟩
theorem w6 (l:OpenLaw) (args:List WData):l.row.toRowW.claim.post args (.bool true) args=true:=
 postW_of (r:=l.row.toRowW) (X:=(true==true))
  (show WShape.has [] (.bool true) .bool=true by first | rfl | decide | simp [WShape.has,WShape.arms,WShape.armsAll])
  (show(WTm.eq .res (.lit (.bool true))).value [] { args:=args,res:=some (.bool true),after:=args }=some (.bool (true==true)) from w_eq_bool (w_res rfl) w_lit) rfl
theorem attach_call {l:OpenLaw} {n:Nat} {q:Program} {loose:List Str} {XP:(Str->Option Value)->Heap->Prop} {YP:World->Heap->Prop} {d:DefRec}
  (hn:l.most=some n) (hdf:d.params.defaults=[])
  (call: ∀ (w:World) (s₀ s₁:Shared) (mg mb:Str->Option Value) (fa:Addr) (o:Obj) (pm cd doc:Value) (a:Addr) (vs:List Value) (ns:List Int),
   Ground q loose [] XP w s₀ mg mb s₁.heap->YP w s₁.heap->
   s₁.heap.get? fa=some o->o.data= .func (docDef d.name d.params d.body d.scope pm cd doc)->s₁.heap.CodeRec cd d.name->mg d.name=some (.ref fa)->
   s₁.heap.get? a=some { cls:= .type "list",data:= .seq vs.toArray }->IntsAre vs ns->ns.length<=n->s₁.gens= #[]->
   codeAny (model l.prog w) callerA (.call (.ref fa) ⟨[.ref a],[]⟩) (fun r s'=>r= .ok (.ret (.bool true))/\OldK s₁.heap s'.heap/\s'.os=s₁.os/\AllBare s'.gens) s₁):
  WalkO q loose XP YP l.row.toRowW d [] (fun f vs=>PySem.call f vs):=by
 intro w s₀ s₁ mg mb G Y fa o pm cd doc dV kV ho hd hcd hD hmg hg args vals as hpre hlay hrd hwl hlo
 obtain rfl:dV= .none:=Dflts.none hD hdf
 obtain rfl:kV= .none:=Dflts.noKw hD
 obtain⟨a,vs,ns,rfl,rfl,hobj,hints,hlen⟩:=wZ hn hpre hwl
 refine enter_call (codeAny_mono (call w s₀ s₁ mg mb fa o pm cd doc a vs ns G Y ho (fd_plain hd) hcd hmg hobj hints hlen hg) fun r s' hq=> ?_)
 obtain⟨rfl,h2,h3,h4⟩:=hq
 exact⟨.inl ⟨.bool true, .bool true,[],rfl,fun _=>rfl, .bool true,w6 l _,fun _=>⟨List.Pairwise.nil,fun _ hm=>(nomatch hm)⟩⟩,h2,h3,h4⟩
section
variable {prog:Program} {w:World} {A:Around} {E:Value->Shared->Prop} {s:Shared} {K:Frag}
noncomputable def aOo (h:Heap) (L d:Addr):List (Addr×Obj):=(List.range h.objs.size).filterMap fun a=>if a=L\/a=d then none else(h.get? a).map fun o=>(a,o)
end
end Att
namespace L2
open PySem PySem.Spec PyProof.Rows
theorem pM: ∀ {vs:List Value} {ns:List Int},IntsAre vs ns->bI (ns.map V.int) vs
 | _,_, .nil=> .nil
 | _,_, .cons n t h=> .cons ⟨t,rfl⟩ (pM h)
def aM4 (H:Hp):Prop:= ∀ b,H b=none\/ ∃ o xs,H b=some (.frz o (.lst xs))
theorem aBa {P:Program} {w:World} {K:PySem.W.Frag} {mg mb:Str->Option Value} {CX:CXT} {k:Nat} {fa a:Addr} {fd:FuncData} {x:Str} {sp:Sp} {s₁:Shared} {vs:List Value} {ns:List Int}
  (KX:K.In s₁.heap) (hns:s₁.heap.Ns mainGlobals mg) (hb:s₁.heap.Ns builtinsNs mb) (hbb: ∀ x:Str,x≠"__name__"->mb x=bootBuiltins x) (hlim:s₁.heap.NoLimit) (hg:s₁.gens= #[])
  (ha:s₁.heap.get? a=some { cls:= .type "list",data:= .seq vs.toArray }) (hi:IntsAre vs ns) (hl:ns.length<=sizeLine) (hr:Room k callerA)
  (F: ∀ base:Heap,K.In base->base.Ns mainGlobals mg->FnOk P w K mg base CX k fa fd [x] sp) (hbind: ∀ (s:Shared) (u:Value),BindsTo s fd ⟨[u],[]⟩ [(x,u)])
  (hsp: ∀ H:Hp,aM4 H->SqL K H a (ns.map V.int)->sp [.ref a] H (fun v _=>v= .bl true) fun _ _ _=>False)
  (hCX: ∀ H e s',CX [] H s₁ (fun _ _ _=>False) e s'->False):
  codeAny (model P w) callerA (.call (.ref fa) ⟨[.ref a],[]⟩) (fun r s'=>r= .ok (.ret (.bool true))/\OldK s₁.heap s'.heap/\s'.os=s₁.os/\AllBare s'.gens) s₁:=by
 have rv:=pM hi
 have lenV:=hi.length
 -- from an abstract heap in which nothing but the script may be tracked
 have core: ∀ H:Hp,aM4 H->SqL K H a (ns.map V.int)->HOk P w H s₁.heap->(∀ b,H b≠none->b=a)->(H a≠none->K.lookup a=none)->
   codeAny (model P w) callerA (.call (.ref fa) ⟨[.ref a],[]⟩) (fun r s'=>r= .ok (.ret (.bool true))/\OldK s₁.heap s'.heap/\s'.os=s₁.os/\AllBare s'.gens) s₁:=by
  intro H hO hS hok hA hK
  have base_of: ∀ {b:Addr} {o:Obj},s₁.heap.get? b=some o->H b=none->(aAz s₁.heap H).get? b=some o:=fun e n=>aA0 e n
  have noA: ∀ {b:Addr} {o:Obj} {es:Array DictEntry} {ep:Nat},s₁.heap.get? b=some o->o.data= .dict es ep->H b=none:=fun {b o es ep} e d=>by
   cases q:H b with
   | none=>rfl
   | some u=>
    have e':b=a:=hA b (by rw [q];simp)
    subst e'
    rw [ha] at e;cases e
    have d':Data.seq vs.toArray _=Data.dict es ep:=d
    cases d'
  have nsK: ∀ {b:Addr} {m:Str->Option Value},s₁.heap.Ns b m->(aAz s₁.heap H).Ns b m:=fun {b m} ⟨o,es,ep,e,d,r⟩=>⟨o,es,ep,base_of e (noA e d),d,r⟩
  have hKb:K.In (aAz s₁.heap H):=fun b o e=>base_of (KX b o e) (by
   cases q:H b with
   | none=>rfl
   | some u=>
    have e':b=a:=hA b (by rw [q];simp)
    subst e'
    rw [hK (by rw [q];simp)] at e;cases e)
  have hM:Mod K mg (aAz s₁.heap H):=⟨hKb,nsK hns,⟨mb,nsK hb,hbb⟩,let ⟨mc,h1,h2⟩:=hlim;⟨mc,nsK h1,h2⟩⟩
  have e0:Env0 P w K mg (aAz s₁.heap H) callerA [] s₁ H:=⟨rfl,hM,fun b o e=>aE3 e,Nat.le_of_eq (wP _ _),trivial,fun b hb=>absurd (show b∈([]:List Addr) from hb) (by simp),hok, .of_eq hg⟩
  refine codeAny_mono ((F _ hKb (nsK hns)).run callerA [] s₁ H ⟨[.ref a],[]⟩ [.ref a] [.ref a] _ _ hr e0 (hbind s₁ (.ref a)) (.cons rfl .nil) (hsp H hO hS)) fun r s' h=> ?_
  cases r with
  | error e=>exact(hCX H e s' h).elim
  | ok fl=>
   cases fl with
   | next=>exact ay h
   | brk=>exact ay h
   | cont=>exact ay h
   | ret u=>
    obtain⟨v,H',os,bare,un,hok',r',q⟩:=h
    have q':v= .bl true:=q
    subst q'
    obtain rfl:u=Value.bool true:=r'
    refine⟨rfl,OldK.of_keep fun b o e=> ?_,os,bare⟩
    cases q:H b with
    | none=>exact un.keep b o e q (by intro z;exact absurd (show b∈([]:List Addr) from z) (by simp)) (by simp)
    | some u=>
     rcases hO b with z | ⟨ob,xs,z⟩
     ·rw [q] at z;cases z
     ·have z2:=un.frzs b ob _ z
      obtain⟨e1,_⟩:=hok b _ z
      obtain⟨e2,_⟩:=hok' b _ z2
      rw [e] at e1;cases e1
      exact e2
 cases hk:K.lookup a with
 | some o=>
  -- the script is one of the module's own objects
  have e:=KX a o hk
  rw [ha] at e
  cases e
  refine core (fun _=>none) (fun _=> .inl rfl) (.inr ⟨_,vs.toArray,_,hk,rfl,rfl,rfl,by rw [av,lenV];exact hl,by simpa using rv⟩) (fun b u z=>by have z':(none:Option HO)=some u:=z;cases z') (fun b z=>absurd rfl z) fun z=>absurd rfl z
 | none=>
  refine core (fun b=>if b=a then some (.frz { cls:= .type "list",data:= .seq vs.toArray } (.lst (ns.map V.int))) else none) (fun b=> ?_) (.inl (.inr ⟨{ cls:= .type "list",data:= .seq vs.toArray },if_pos rfl⟩)) (fun b u z=> ?_) (fun b z=> ?_) fun _=>hk
  ·by_cases hb:b=a
   ·exact .inr ⟨_,_,if_pos hb⟩
   ·exact .inl (if_neg hb)
  ·by_cases hb:b=a
   ·have z':=(if_pos hb).symm.trans z
    cases z'
    subst hb
    exact⟨ha,by rw [am];exact hl,vs,_,rv,ha⟩
   ·have z':=(if_neg hb).symm.trans z
    cases z'
  ·by_cases hb:b=a
   ·exact hb
   ·exact absurd (if_neg hb) z
noncomputable abbrev KOf {K:PySem.W.Frag} {h:Heap} (_:K.In h):PySem.W.Frag:=K
theorem walk_of {l:PySem.W.OpenLaw} {n k:Nat} {q:Program} {loose:List Str} {XP:(Str->Option Value)->Heap->Prop} {YP:World->Heap->Prop} {d:DefRec} {K:Params->PySem.W.Frag} {CX:World->CXT} {sp:World->Sp} {x:Str}
  (hn:l.most=some n) (hn2:n<=sizeLine) (hdf:d.params.defaults=[]) (hr:Room k callerA)
  (hY: ∀ (w:World) (h:Heap),YP w h->(K w.params).In h)
  (F: ∀ (w:World) (mg:Str->Option Value) (fa:Addr) (h:Heap),(K w.params).In h->h.Ns mainGlobals mg->mg d.name=some (.ref fa)->
   ∃ fd:FuncData,(∀ (s:Shared) (u:Value),BindsTo s fd ⟨[u],[]⟩ [(x,u)])/\
    ∀ base:Heap,(K w.params).In base->base.Ns mainGlobals mg->FnOk l.prog w (K w.params) mg base (CX w) k fa fd [x] (sp w))
  (hsp: ∀ (w:World) (H:Hp) (a:Addr) (ns:List Int),ns.length<=n->aM4 H->SqL (K w.params) H a (ns.map V.int)->sp w [.ref a] H (fun v _=>v= .bl true) fun _ _ _=>False)
  (hCX: ∀ (w:World) (H:Hp) (s:Shared) (e:Value) (s':Shared),CX w [] H s (fun _ _ _=>False) e s'->False):
  PySem.W.WalkO q loose XP YP l.row.toRowW d [] (fun f vs=>PySem.call f vs):=by
 refine Att.attach_call hn hdf fun w s₀ s₁ mg mb fa o pm cd doc a vs ns G Y ho hd hcd hmg hobj hints hlen hg=> ?_
 have KX:=hY w _ Y
 obtain⟨fd,hb,hF⟩:=F w mg fa _ KX G.T.g hmg
 exact aBa KX G.T.g G.T.b G.T.builtins G.T.nolimit hg hobj hints (Nat.le_trans hlen hn2) hr hF hb (fun H hO hS=>hsp w H a ns hlen hO hS) fun H e s'=>hCX w H s₁ e s'
structure Fun (K:PySem.W.Frag) (x qual:Str) (st:Stmt) (f:Addr) (fd:FuncData):Prop where
 ex: ∃ (oc:Value) (od:Option Addr) (kV doc pm:Value) (an:Option Addr) (cdv ct:Value) (osl:Array (Option Value)),
  fd=PySem.W.fnOf x qual (defArgs st) (defBody st) (defScope st) .none kV doc pm an cdv ct/\K.lookup f=some ⟨oc,od, .func fd,osl⟩/\PySem.W.codeIn K cdv qual=true
 kp:PySem.W.keepIn K (.ref f)=true
section
variable {P:Program} {w:World} {K:PySem.W.Frag} {mg:Str->Option Value} {base:Heap}
theorem Fun.binds {x qual:Str} {st:Stmt} {f:Addr} {fd:FuncData} {ps:List Str} (F:Fun K x qual st f fd)
  (h: ∀ (kV doc pm:Value) (an:Option Addr) (cdv ct:Value) (us:List Value),us.length=ps.length->bindArgs (PySem.W.fnOf x qual (defArgs st) (defBody st) (defScope st) .none kV doc pm an cdv ct) ⟨us,[]⟩=pure (ps.zip us)):kM K fd ps []:=by
 obtain⟨oc,od,kV,doc,pm,an,cdv,ct,osl,rfl,lk,hcd⟩:=F.ex
 exact .all (h kV doc pm an cdv ct)
theorem w8 {x qual:Str} {st:Stmt} {f:Addr} {oc:Value} {od an:Option Addr} {osl:Array (Option Value)} {kV doc pm cdv ct:Value} (l:K.lookup f=some ⟨oc,od, .func (PySem.W.fnOf x qual (defArgs st) (defBody st) (defScope st) .none kV doc pm an cdv ct),osl⟩)
  (c:PySem.W.codeIn K cdv qual=true) (k:PySem.W.keepIn K (.ref f)=true):Fun K x qual st f (PySem.W.fnOf x qual (defArgs st) (defBody st) (defScope st) .none kV doc pm an cdv ct):=⟨⟨oc,od,kV,doc,pm,an,cdv,ct,osl,rfl,l,c⟩,k⟩
end
section
variable {X:Cx}
end
theorem aDt {A B:Prop} (h:B):if false=true then A else B:=by
 rw [if_neg bd]
 exact h
theorem aBb {A B:Prop} (h:A):if true=true then A else B:=by
 rw [if_pos rfl]
 exact h
def Same (H H':Hp):Prop:= ∀ b o,H b=some o->H' b=some o
theorem Same.refl (H:Hp):Same H H:=fun _ _ h=>h
theorem Same.trans {H H1 H2:Hp} (a:Same H H1) (b:Same H1 H2):Same H H2:=fun c o h=>b c o (a c o h)
theorem Same.free {H H':Hp} (e:Same H H') {l:Addr} (h:H' l=Option.none):H l=Option.none:=by
 cases q:H l with
 | none=>rfl
 | some o=>
  rw [e l o q] at h
  cases h
theorem Same.seq {K:PySem.W.Frag} {H H':Hp} {a:Addr} {xs:List V} (e:Same H H') (h:SqL K H a xs):SqL K H' a xs:=by
 rcases h with (h | ⟨o,h⟩) | h
 ·exact .inl (.inl (e _ _ h))
 ·exact .inl (.inr ⟨o,e _ _ h⟩)
 ·exact .inr h
end L2
namespace SK
open PySem PySem.Spec PyProof.Rows L2
open PySem.AutoSeq1 (wpAny_loadPart' idx_int)
theorem pN (l:Addr) (items:Array Value) (n:Nat) (b:Addr) (items2:Array Value) (n2:Nat) (dd2:Option Addr) (sl2:Array (Option Value)) (hc0: ¬(!items.isEmpty&&Builtin.List.listTooLong (items.size+items2.size))=true) (hc1:items.size<=sizeLine) (hs2:items.size+items2.size<=sizeLine+1):
  Meets (Builtin.«list.extend» ⟨[.ref l, .ref b],[]⟩) (fun _ R s=>s.heap.get? l=some { cls:= .type "list",dict:=none,data:= .seq items n,slots:= #[] }/\s.heap.get? b=some { cls:= .type "list",dict:=dd2,data:= .seq items2 n2,slots:=sl2 }/\R (.ok (.ret Value.none)) { s with heap:=s.heap.update l (Obj.mapSeq fun x=>x++items2),toks:=s.toks }):=
 .of_wp fun prog w A R s h=>by
  obtain⟨hp,g,d,tk,os⟩:=s;obtain⟨hl,hb,h⟩:=h;have f1:=idx_int;have f2:=AutoSeq1.sub_tuple_tuple;have f3:=AutoSeq1.sub_list_list;have f4:=AutoSeq1.sub_tuple_list;have f5:=AutoSeq1.sub_list_tuple;
  have hz':(items++items2).size<=sizeLine+1:=by rw [Array.size_append];exact hs2
  wp_walk using (wpAny_updateSeq hl rfl (hz:=hc1) (_hz':=hz')),wpAny_loadPart' hl,wpAny_loadPart' hb;exact⟨_,rfl,h⟩
theorem gW (a:Int) (t:Tok) (l:Addr) (items:Array Value) (n:Nat) (T:String) (dd:Option Addr) (sl:Array (Option Value)) (hT:T="list"\/T="tuple"):
  Meets (Builtin.«int.__rmul__» ⟨[.int a t, .ref l],[]⟩) (fun _ R s=>s.heap.get? l=some { cls:= .type T,dict:=dd,data:= .seq items n,slots:=sl }/\R (.ok (.ret Value.notImplemented)) s):=
 .of_wp fun prog w A R s h=>by
  obtain⟨hp,g,d,tk,os⟩:=s;obtain⟨hl,h⟩:=h
  rcases hT with rfl | rfl<;>(wp_walk using wpAny_loadPart' hl;exact⟨_,rfl,h⟩)
theorem w9 (l:Addr) (items:Array Value) (n:Nat) (x:Int) (u:Tok) (dd:Option Addr) (sl:Array (Option Value)) (hc0: ¬(!Builtin.List.listFitsIndex x)=true) (hc1: ¬items.size * x.toNat > (2 ^ 63 - 1) / 8) (hc2: ¬Builtin.List.listTooLong (items.size * x.toNat)=true):
  Meets (Builtin.«list.__mul__» ⟨[.ref l, .int x u],[]⟩) (fun _ R s=>s.heap.get? l=some { cls:= .type "list",dict:=dd,data:= .seq items n,slots:=sl }/\R (.ok (.ret (Value.ref s.heap.objs.size))) { s with heap:=s.heap.push { cls:=Value.type "list",data:=Data.seq (List.foldl (fun x1 x2=>x1++x2) #[] (ak (if items.isEmpty=true then 0 else x.toNat) items)) },toks:=s.toks }):=
 .of_wp fun prog w A R s h=>by
  obtain⟨hp,g,d,tk,os⟩:=s;obtain⟨hl,h⟩:=h
  have hsz:=AutoListH.joined_fits hc2
  wp_walk using wpAny_loadPart' hl;refine wpAny_ite_false (decide_eq_false (Nat.not_lt.mpr hsz)) ?_;wp_walk;exact⟨_,rfl,h⟩
open PySem.AutoSeq1 (wpAny_loadPart' idx_int)
theorem rN (l:Addr) (items:Array Value) (n:Nat) (x:Int) (u:Tok) (dd:Option Addr) (sl:Array (Option Value)) (h0:(decide (x< -(2 ^ 63))||decide (x≥2 ^ 63))=false) (hc:(items.isEmpty||x==1)=true):
  Meets (Builtin.«tuple.__mul__» ⟨[.ref l, .int x u],[]⟩) (fun _ R s=>s.heap.get? l=some { cls:= .type "tuple",dict:=dd,data:= .seq items n,slots:=sl }/\R (.ok (.ret (Value.ref l))) s):=
 .of_wp fun prog w A R s h=>by
  obtain⟨hp,g,d,tk,os⟩:=s;obtain⟨hl,h⟩:=h
  have f1:=idx_int
  wp_walk;refine wpAny_ite_false (by rw [h0];rfl) ?_;wp_walk using wpAny_loadPart' hl;exact⟨_,rfl,h⟩
theorem rO (l:Addr) (items:Array Value) (n:Nat) (x:Int) (u:Tok) (dd:Option Addr) (sl:Array (Option Value)) (h0:(decide (x< -(2 ^ 63))||decide (x≥2 ^ 63))=false) (hc: ¬(items.isEmpty||x==1)=true) (hc1:(x<=0||items.isEmpty)=true):
  Meets (Builtin.«tuple.__mul__» ⟨[.ref l, .int x u],[]⟩) (fun _ R s=>s.heap.get? l=some { cls:= .type "tuple",dict:=dd,data:= .seq items n,slots:=sl }/\R (.ok (.ret (Value.ref s.heap.objs.size))) { s with heap:=s.heap.push { cls:=Value.type "tuple",data:=Data.seq #[] },toks:=s.toks }):=
 .of_wp fun prog w A R s h=>by
  obtain⟨hp,g,d,tk,os⟩:=s;obtain⟨hl,h⟩:=h
  have f1:=idx_int
  wp_walk;refine wpAny_ite_false (by rw [h0];rfl) ?_;wp_walk using wpAny_loadPart' hl;exact⟨_,rfl,h⟩
theorem rP (l:Addr) (items:Array Value) (n:Nat) (x:Int) (u:Tok) (dd:Option Addr) (sl:Array (Option Value)) (h0:(decide (x< -(2 ^ 63))||decide (x≥2 ^ 63))=false) (hc: ¬(items.isEmpty||x==1)=true) (hc1: ¬(x<=0||items.isEmpty)=true)
  (hc2: ¬ (items.size:Int) * x > (2 ^ 63 - 1) / 8) (hc3: ¬ Builtin.Tuple.tupleTooMany (items.size * x)=true) (hsz:(List.foldl (fun x1 x2=>x1++x2) #[] (ak x.toNat items)).size<=sizeLine):
  Meets (Builtin.«tuple.__mul__» ⟨[.ref l, .int x u],[]⟩) (fun _ R s=>s.heap.get? l=some { cls:= .type "tuple",dict:=dd,data:= .seq items n,slots:=sl }/\R (.ok (.ret (Value.ref s.heap.objs.size))) { s with heap:=s.heap.push { cls:=Value.type "tuple",data:=Data.seq (List.foldl (fun x1 x2=>x1++x2) #[] (ak x.toNat items)) },toks:=s.toks }):=
 .of_wp fun prog w A R s h=>by
  obtain⟨hp,g,d,tk,os⟩:=s;obtain⟨hl,h⟩:=h
  have f1:=idx_int
  wp_walk;refine wpAny_ite_false (by rw [h0];rfl) ?_;wp_walk using wpAny_loadPart' hl;refine wpAny_ite_false (decide_eq_false hc2) ?_;wp_walk;exact⟨_,rfl,h⟩
theorem jX:fillsNumberSlot (.type "tuple") "mul"=pure false:=
 PySem.fillsNumberSlot_seq (id:="tuple.__mul__") (r:=some (.builtin "tuple.__rmul__")) F.slot_tuple_mul.lookup (by decide+kernel) F.slot_tuple_rmul.lookup (by decide+kernel)
theorem pO:seqRepeat? (.type "tuple")=pure (some (.builtin "tuple.__mul__")):=by
 unfold seqRepeat?
 rw [PySem.seqSlot_of (T:="tuple") (name:="__mul__") (id:="tuple.__mul__") F.slot_tuple_mul.lookup (by decide+kernel),PySem.seqSlot_of (T:="tuple") (name:="__rmul__") (id:="tuple.__rmul__") F.slot_tuple_rmul.lookup (by decide+kernel)]
 rfl
inductive D where
 | non | bl (b:Bool) | int (i:Int) | str (x:Str)
 | tup (xs:List D) | lst (xs:List D)
 | exc (c:Nat) | fn (f:Nat)
 deriving Inhabited
noncomputable def b2i (b:Bool):Int:=if b then 1 else 0
mutual
noncomputable def deq:D->D->Bool
 | .non, .non=>true
 | .bl a, .bl b=>a==b
 | .bl a, .int j=>b2i a==j
 | .int i, .bl b=>i==b2i b
 | .int i, .int j=>i==j
 | .str x, .str y=>x==y
 | .tup xs, .tup ys=>mG xs ys
 | .lst xs, .lst ys=>mG xs ys
 | _,_=>false
noncomputable def mG:List D->List D->Bool
 | [],[]=>true
 | x::xs,y::ys=>deq x y&&mG xs ys
 | _,_=>false
end
mutual
noncomputable def plain:D->Bool
 | .non=>true
 | .bl _=>true
 | .int _=>true
 | .str x=>x.cps.all (· <0x110000)
 | .tup xs=>aH xs
 | .lst xs=>aH xs
 | .exc _=>false
 | .fn _=>false
noncomputable def aH:List D->Bool
 | []=>true
 | x::xs=>plain x&&aH xs
end
mutual
noncomputable def dep:D->Nat
 | .tup xs=>jM xs+1
 | .lst xs=>jM xs+1
 | _=>0
noncomputable def jM:List D->Nat
 | []=>0
 | x::xs=>max (dep x) (jM xs)
end
noncomputable def rQ (x y:D):Bool:=plain x&&plain y&&decide (min (dep x) (dep y)<=60)
inductive R where
 | ok (d:D) | ow (xs:List D) | ex (c:Nat) | bad
noncomputable def R.bind (r:R) (k:D->R):R:=match r with
 | .ok d=>k d
 | .ow xs=>k (.lst xs)
 | .ex c=> .ex c
 | .bad=> .bad
inductive Slot where
 | no | sh (d:D) | ow (xs:List D) | dc (kvs:List (D×D)) | sd (kvs:List (D×D))
noncomputable def Slot.owns:Slot->Bool
 | .ow _=>true
 | .dc _=>true
 | _=>false
abbrev Rho:=List Slot
abbrev F:=Rho->R
inductive Out where
 | nx (ρ:Rho) | rt (r:R) | bk (ρ:Rho) | ct (ρ:Rho) | ex (c:Nat) (ρ:Rho)
abbrev FS:=Rho->Out
abbrev Fn:=List D->R
noncomputable def LIM:Nat:=100000
noncomputable def num:D->Option Int
 | .int i=>some i
 | .bl b=>some (b2i b)
 | _=>none
noncomputable def sml (i:Int):Bool:=decide (-18446744073709551616<i)&&decide (i<18446744073709551616)
noncomputable def eX (op:Operator) (i j:Int):R:=match op with
 | .Add=> .ok (.int (i+j))
 | .Sub=> .ok (.int (i - j))
 | .Mult=>if sml i||sml j then .ok (.int (i * j)) else .bad
 | .FloorDiv=>if 0<j/\j<1073741824 then .ok (.int (i / j)) else .bad
 | .Mod=>if 0<j then .ok (.int (i % j)) else .bad
 | .LShift=>if 0<=j/\j<=1000/\sml i=true then .ok (.int (i * 2 ^ j.toNat)) else .bad
 | .RShift=>if 0<=j then .ok (.int (i / 2 ^ j.toNat)) else .bad
 | _=> .bad
noncomputable def aMb (xs:List D) (k:Int):List D:=(ak k.toNat xs).flatten
noncomputable def jN (op:Operator) (x y:D):R:=match x,y with
 | .int i, .int j=>(match op with
  | .BitAnd=> .ok (.int (Builtin.bitAnd i j))
  | .BitOr=> .ok (.int (Builtin.bitOr i j))
  | .BitXor=> .ok (.int (Builtin.bitXor i j))
  | op=>eX op i j)
 | .int i, .bl b=>(match op with
  | .Sub=> .ok (.int (i - b2i b))
  | .Add=> .ok (.int (i+b2i b))
  | _=> .bad)
 | .tup xs, .tup ys=>(match op with
  | .Add=>if xs.length+ys.length<=LIM then .ok (.tup (xs++ys)) else .bad
  | _=> .bad)
 | .lst xs, .lst ys=>(match op with
  | .Add=>if xs.length+ys.length<=LIM then .ow (xs++ys) else .bad
  | _=> .bad)
 | .tup xs, .int k=>(match op with
  | .Mult=>if -1000000<k/\k<1000000/\xs.length * k.toNat<=LIM then .ok (.tup (aMb xs k)) else .bad
  | _=> .bad)
 | .lst xs, .int k=>(match op with
  | .Mult=>if -1000000<k/\k<1000000/\xs.length * k.toNat<=LIM then .ow (aMb xs k) else .bad
  | _=> .bad)
 | _,_=> .bad
noncomputable def items:D->Option (List D)
 | .tup xs=>some xs
 | .lst xs=>some xs
 | _=>none
noncomputable def aFi:D->Bool
 | .non=>true
 | _=>false
noncomputable def aM5 (b:Bool):D->Bool
 | .bl a=>a==b
 | _=>false
noncomputable def mH (x:D) (ys:List D):Bool:=ys.all fun y=>rQ y x
noncomputable def eF (op:CmpOp) (x y:D):R:=match op with
 | .Eq=>if rQ x y then .ok (.bl (deq x y)) else .bad
 | .NotEq=>if rQ x y then .ok (.bl (!deq x y)) else .bad
 | .Lt=>(match x,y with | .int i, .int j=> .ok (.bl (decide (i<j))) | _,_=> .bad)
 | .LtE=>(match x,y with | .int i, .int j=> .ok (.bl (decide (i<=j))) | _,_=> .bad)
 | .Gt=>(match x,y with | .int i, .int j=> .ok (.bl (decide (j<i))) | _,_=> .bad)
 | .GtE=>(match x,y with | .int i, .int j=> .ok (.bl (decide (j<=i))) | _,_=> .bad)
 | .Is=>(match y with
  | .non=> .ok (.bl (aFi x))
  | .bl b=> .ok (.bl (aM5 b x))
  | _=> .bad)
 | .IsNot=>(match y with
  | .non=> .ok (.bl (!aFi x))
  | .bl b=> .ok (.bl (!aM5 b x))
  | _=> .bad)
 | .In=>(match items y with | some ys=>if mH x ys then .ok (.bl (ys.any fun y=>deq y x)) else .bad | none=> .bad)
 | .NotIn=>(match items y with | some ys=>if mH x ys then .ok (.bl (!ys.any fun y=>deq y x)) else .bad | none=> .bad)
noncomputable def ixD (n:Nat) (i:Int):Option Nat:=if 0<=i then(if i<n then some i.toNat else none) else if -(n:Int)<=i then some (i+n).toNat else none
noncomputable def dIx (x y:D):R:=match items x,y with
 | some xs, .int i=>(match(ixD xs.length i).bind fun j=>xs[j]? with | some d=> .ok d | none=> .bad)
 | _,_=> .bad
noncomputable def nQ (n d:Nat):Option Int->Nat
 | none=>d
 | some v=>if v<0 then(v+n).toNat else min v.toNat n
noncomputable def vO (xs:List D) (lo hi:Option Int):List D:=(xs.drop (nQ xs.length 0 lo)).take (nQ xs.length xs.length hi - nQ xs.length 0 lo)
noncomputable def aBc (x:D) (lo hi:Option Int):R:=match x with
 | .tup xs=> .ok (.tup (vO xs lo hi))
 | .lst xs=> .ow (vO xs lo hi)
 | _=> .bad
noncomputable def aDu:D->(Int->R)->R
 | .int i,k=>k i
 | _,_=> .bad
noncomputable def aA (i:Nat):F:=fun ρ=>match ρ[i]? with | some (.sh d)=> .ok d | _=> .bad
noncomputable def aC (i:Nat):F:=fun ρ=>match ρ[i]? with | some (.sh d)=> .ok d | some (.ow xs)=> .ok (.lst xs) | _=> .bad
noncomputable def aBd (i:Nat):F:=fun ρ=>match ρ[i]? with | some (.sh d)=> .ok d | some (.ow xs)=> .ow xs | _=> .bad
noncomputable def rK (d:D):F:=fun _=> .ok d
noncomputable def aJ (op:Operator) (a b:F):F:=fun ρ=>(a ρ).bind fun x=>(b ρ).bind fun y=>jN op x y
noncomputable def aAw (a:F):F:=fun ρ=>(a ρ).bind fun x=>match x with | .int i=> .ok (.int (-i)) | _=> .bad
noncomputable def jO (a:F):F:=fun ρ=>(a ρ).bind fun x=>match x with | .bl b=> .ok (.bl (!b)) | _=> .bad
noncomputable def gX (a b:F):F:=fun ρ=>(a ρ).bind fun x=>match x with | .bl true=>b ρ | .bl false=> .ok (.bl false) | _=> .bad
noncomputable def rOr (a b:F):F:=fun ρ=>(a ρ).bind fun x=>match x with | .bl true=> .ok (.bl true) | .bl false=>b ρ | _=> .bad
noncomputable def rIf (c a b:F):F:=fun ρ=>(c ρ).bind fun x=>match x with | .bl true=>a ρ | .bl false=>b ρ | _=> .bad
noncomputable def aP (op:CmpOp) (a b:F):F:=fun ρ=>(a ρ).bind fun x=>(b ρ).bind fun y=>eF op x y
noncomputable def gB (op op':CmpOp) (a b c:F):F:=fun ρ=>(a ρ).bind fun x=>(b ρ).bind fun y=>(eF op x y).bind fun z=>match z with
 | .bl true=>(c ρ).bind fun w=>eF op' y w
 | .bl false=> .ok (.bl false)
 | _=> .bad
inductive RA where
 | ok (ds:List D) | ex (c:Nat) | bad
noncomputable def RA.cons (x:D):RA->RA
 | .ok ds=> .ok (x::ds)
 | .ex c=> .ex c
 | .bad=> .bad
noncomputable def RA.then (r:RA) (k:List D->R):R:=match r with
 | .ok ds=>k ds
 | .ex c=> .ex c
 | .bad=> .bad
noncomputable def args:List F->Rho->RA
 | [],_=> .ok []
 | f::fs,ρ=>match f ρ with
  | .ok x=>(args fs ρ).cons x
  | .ow xs=>(args fs ρ).cons (.lst xs)
  | .ex c=> .ex c
  | .bad=> .bad
noncomputable def o8 (fs:List F) (ρ:Rho) (k:List D->R):R:=(args fs ρ).then k
noncomputable def eG (fs:List F):F:=fun ρ=>o8 fs ρ fun xs=> .ok (.tup xs)
noncomputable def cM (fs:List F):F:=fun ρ=>o8 fs ρ fun xs=> .ow xs
noncomputable def rIx (a b:F):F:=fun ρ=>(a ρ).bind fun x=>(b ρ).bind fun y=>dIx x y
noncomputable def gS (a:F) (lo hi:Option F):F:=fun ρ=>(a ρ).bind fun x=>match lo,hi with
 | none,none=>aBc x none none
 | some l,none=>(l ρ).bind fun y=>aDu y fun i=>aBc x (some i) none
 | none,some h=>(h ρ).bind fun z=>aDu z fun j=>aBc x none (some j)
 | some l,some h=>(l ρ).bind fun y=>aDu y fun i=>(h ρ).bind fun z=>aDu z fun j=>aBc x (some i) (some j)
noncomputable def aB (f:Fn) (fs:List F):F:=fun ρ=>o8 fs ρ f
noncomputable def pP (r:Fn) (a b:F):F:=fun ρ=>(a ρ).bind fun x=>match x with | .lst ds=>(b ρ).bind fun y=>r [.lst ds,y] | _=> .bad
noncomputable def rIs (p:D->Option Bool) (a:F):F:=fun ρ=>(a ρ).bind fun x=>match p x with | some b=> .ok (.bl b) | none=> .bad
noncomputable def bH (f:D->Option (Option D)):List D->Option (List D)
 | []=>some []
 | d::r=>match f d with
  | none=>none
  | some none=>bH f r
  | some (some x)=>(bH f r).map (x:: ·)
noncomputable def tgt (n:Nat) (d:D):Option (List Slot):=match n with
 | 0=>some [.sh d]
 | n=>match d with
  | .tup ds=>if ds.length=n then some (ds.map Slot.sh) else none
  | _=>none
noncomputable def iH (cs:List Nat) (ρ:Rho):List Slot:=cs.map fun i=>(ρ[i]?).getD .no
noncomputable def dD (n:Nat) (cs:List Slot) (c:Option F) (e:F) (d:D):Option (Option D):=match tgt n d with
 | none=>none
 | some ts=>match c with
  | none=>(match e (ts++cs) with | .ok x=>some (some x) | .ow xs=>some (some (.lst xs)) | _=>none)
  | some c=>match c (ts++cs) with
   | .ok (.bl true)=>(match e (ts++cs) with | .ok x=>some (some x) | .ow xs=>some (some (.lst xs)) | _=>none)
   | .ok (.bl false)=>some none
   | _=>none
noncomputable def aF (n:Nat) (cs:List Nat) (it:F) (c:Option F) (e:F):F:=fun ρ=>(it ρ).bind fun x=>match items x with
 | some ds=>(match bH (dD n (iH cs ρ) c e) ds with | some xs=> .ow xs | none=> .bad)
 | none=> .bad
noncomputable def pQ (n:Nat):List D:=(List.range n).map fun(i:Nat)=>D.int (i:Int)
noncomputable def aK (a:F):F:=fun ρ=>(a ρ).bind fun x=>aDu x fun i=>if -100000<=i/\i<=100000 then .ok (.lst (pQ i.toNat)) else .bad
noncomputable def aFj (a:F):F:=fun ρ=>(a ρ).bind fun x=>match items x with
 | some xs=> .ok (.lst (xs.zipIdx.map fun p=>D.tup [.int (p.2:Nat),p.1]))
 | none=> .bad
noncomputable def vP (a b:F):F:=fun ρ=>(a ρ).bind fun x=>(b ρ).bind fun y=>match x,y with
 | .tup xs, .tup ys=> .ok (.lst ((xs.zip ys).map fun p=>D.tup [p.1,p.2]))
 | .lst xs, .lst ys=> .ok (.lst ((xs.zip ys).map fun p=>D.tup [p.1,p.2]))
 | .lst xs, .tup ys=> .ok (.lst ((xs.zip ys).map fun p=>D.tup [p.1,p.2]))
 | .tup xs, .lst ys=> .ok (.lst ((xs.zip ys).map fun p=>D.tup [p.1,p.2]))
 | _,_=> .bad
noncomputable def eU:Fn | [x]=>(match items x with | some xs=> .ok (.int xs.length) | none=> .bad) | _=> .bad
noncomputable def aJu:Fn | [.int i]=> .ok (.int i) | [.bl b]=> .ok (.int (b2i b)) | _=> .bad
noncomputable def dY:Fn | [x]=>(match items x with | some xs=> .ok (.tup xs) | none=> .bad) | _=> .bad
noncomputable def aFk:Fn | [x]=>(match items x with | some xs=> .ow xs | none=> .bad) | _=> .bad
noncomputable def fK:List D->Option (List Int)
 | []=>some []
 | .int i::r=>(fK r).map (i:: ·)
 | _::_=>none
noncomputable def eI:List D->Option (List Bool)
 | []=>some []
 | .bl b::r=>(eI r).map (b:: ·)
 | _::_=>none
noncomputable def xA:Fn | [x]=>(match(items x).bind fK with | some xs=> .ok (.int xs.sum) | none=> .bad) | _=> .bad
noncomputable def aDv:Fn | [x]=>(match(items x).bind eI with | some xs=> .ok (.bl (xs.all id)) | none=> .bad) | _=> .bad
noncomputable def aP1:Fn | [x]=>(match(items x).bind eI with | some xs=> .ok (.bl (xs.any id)) | none=> .bad) | _=> .bad
noncomputable def aOp:Fn | [.int i, .int j]=> .ok (.int (if j > i then j else i)) | _=> .bad
noncomputable def aP2:Fn | [.int i, .int j]=> .ok (.int (if j<i then j else i)) | _=> .bad
noncomputable def vQ:Int->List Int->Int
 | m,[]=>m
 | m,i::r=>vQ (if m<i then i else m) r
noncomputable def aOq:Int->List Int->Int
 | m,[]=>m
 | m,i::r=>aOq (if i<m then i else m) r
noncomputable def aFl:Fn | [x]=>(match(items x).bind fK with | some (n::ns)=> .ok (.int (vQ n ns)) | _=> .bad) | _=> .bad
noncomputable def aM6:Fn | [.int i]=> .ok (.int (if i<0 then -i else i)) | _=> .bad
noncomputable def fI:List Int->List Int->Bool
 | [],[]=>false
 | [],_::_=>true
 | _::_,[]=>false
 | a::r,b::t=>if a=b then fI r t else decide (a<b)
mutual
noncomputable def same:D->D->Bool
 | .int _, .int _=>true
 | .tup xs, .tup ys=>a8 xs ys
 | _,_=>false
noncomputable def a8:List D->List D->Bool
 | [],[]=>true
 | x::xs,y::ys=>same x y&&a8 xs ys
 | _,_=>false
end
mutual
noncomputable def eV:D->List Int
 | .int i=>[i]
 | .tup xs=>dF xs
 | _=>[]
noncomputable def dF:List D->List Int
 | []=>[]
 | x::xs=>eV x++dF xs
end
noncomputable def ltD (x y:D):Bool:=fI (eV x) (eV y)
noncomputable def wL (a:D):List D->List D
 | []=>[a]
 | b::r=>if ltD b a then b::wL a r else a::b::r
noncomputable def d8:List D->List D
 | []=>[]
 | a::r=>wL a (d8 r)
noncomputable def aOr (d:D):List D->D
 | []=>d
 | e::r=>aOr (if ltD e d then e else d) r
noncomputable def eJ:D->Bool
 | .tup (_::_)=>true
 | _=>false
noncomputable def iK:D->Bool
 | .tup _=>true
 | _=>false
noncomputable def fL:List D->Bool
 | []=>true
 | d::r=>iK d&&(r.isEmpty||eJ d)&&decide (dep d<=8)&&same d d&&r.all (same d)
noncomputable def jY (acc:List D) (d:D):List D:=if acc.any (fun e=>deq e d) then acc else acc++[d]
noncomputable def ddD (ds:List D):List D:=ds.foldl jY []
noncomputable def aM7 (ds:List D):R:=if fL ds then(match ds with | d::r=> .ok (aOr d r) | []=> .bad) else .bad
noncomputable def aM8 (ds:List D):R:=match fK ds with
 | some ns=>(match ns with | n::r=> .ok (.int (aOq n r)) | []=> .bad)
 | none=>aM7 ds
noncomputable def aPm:Fn | [x]=>(match items x with | some ds=>aM8 ds | none=> .bad) | _=> .bad
noncomputable def iL (ds:List D):R:=if fL ds&&decide (ds.length<64) then .ow (d8 ds) else .bad
noncomputable def tH (ds:List D):R:=iL ds
noncomputable def fM:Fn | [x]=>(match items x with | some ds=>tH ds | none=> .bad) | _=> .bad
noncomputable def aPn (ns:List Int):List Int:=((List.range 17).filter fun(k:Nat)=>ns.contains (k:Int)).map fun(k:Nat)=>(k:Int)
noncomputable def aPo (ns:List Int):Bool:=ns.all fun n=>decide (0<=n/\n<17)
noncomputable def aJv (ds:List D):R:=if fL ds&&decide ((ddD ds).length<64) then .ow (d8 (ddD ds)) else .bad
noncomputable def aPp (ds:List D):R:=aJv ds
noncomputable def dSS:Fn | [x]=>(match x with | .lst ds=>aPp ds | _=> .bad) | _=> .bad
noncomputable def aPq (ds:List D):R:=match fK ds with | some ns=>if aPo ns then .ok (.int ((aPn ns).length:Nat)) else .bad | none=> .bad
noncomputable def dLS:Fn | [x]=>(match x with | .lst ds=>aPq ds | _=> .bad) | _=> .bad
noncomputable def aPr (i:Int):List Int->Int
 | []=>i
 | n::ns=>vQ n ns
noncomputable def aPs (i:Int):Fn | [x]=>(match(items x).bind fK with | some ns=> .ok (.int (aPr i ns)) | none=> .bad) | _=> .bad
noncomputable def tJ:Fn | [.lst ys,x]=>if mH x ys then .ok (.int ((ys.countP fun y=>deq y x):Nat)) else .bad | _=> .bad
noncomputable def pR:Fn | [.lst ys,x]=>if mH x ys then(match ys.findIdx? fun y=>deq y x with | some k=> .ok (.int (k:Nat)) | none=> .bad) else .bad | _=> .bad
noncomputable def aJw (x:D):R:=match x with | .lst xs=> .ow xs.reverse | .tup xs=> .ok (.tup xs.reverse) | _=> .bad
noncomputable def aM9 (a:F):F:=fun ρ=>(a ρ).bind aJw
noncomputable def dS {α:Type} (xs:List α) (lo:Nat):List α:=(List.range ((xs.length - lo+1) / 2)).filterMap fun k=>xs[lo+2 * k]?
noncomputable def rR (x y:D):R:=match x with | .tup xs=>(match y with | .int i=>if 0<=i then .ok (.tup (dS xs i.toNat)) else .bad | _=> .bad) | _=> .bad
noncomputable def xB (a b:F):F:=fun ρ=>(a ρ).bind fun x=>(b ρ).bind fun y=>rR x y
noncomputable def aMc (a:F):F:=fun ρ=>(a ρ).bind fun x=>match x with | .bl b=> .ok (.bl b) | .lst xs=> .ok (.bl (!xs.isEmpty)) | _=> .bad
noncomputable def aP3 (a b:F):F:=fun ρ=>(a ρ).bind fun x=>match x with | .tup ds=>(b ρ).bind fun y=>pR [.lst ds,y] | _=> .bad
noncomputable def aP4 (a b:F):F:=fun ρ=>(a ρ).bind fun x=>match items x with | some ds=>(b ρ).bind fun y=>tJ [.lst ds,y] | none=> .bad
noncomputable def orP (p q:D->Option Bool):D->Option Bool:=fun d=>match p d,q d with | some a,some b=>some (a||b) | _,_=>none
mutual
noncomputable def hkD:D->Bool
 | .non=>true
 | .int _=>true
 | .tup xs=>aDw xs
 | _=>false
noncomputable def aDw:List D->Bool
 | []=>true
 | x::xs=>hkD x&&aDw xs
end
noncomputable def aNa (k:D):Bool:=iK k&&hkD k&&decide (dep k<=8)
noncomputable def inK (op:CmpOp) (b:Bool):R:=match op with
 | .In=> .ok (.bl b)
 | .NotIn=> .ok (.bl !b)
 | _=> .bad
noncomputable def aFm (op:CmpOp) (a:F) (i:Nat):F:=fun ρ=>(a ρ).bind fun x=>match ρ[i]? with
 | some (.sh y)=>eF op x y
 | some (.ow ys)=>eF op x (.lst ys)
 | _=> .bad
noncomputable def put (ρ:Rho) (i:Nat) (s:Slot):Rho:=ρ.set i s
noncomputable def frz1 (i:Nat) (ρ:Rho):Rho:=match ρ[i]? with | some (.ow xs)=>ρ.set i (.sh (.lst xs)) | some (.dc kvs)=>ρ.set i (.sd kvs) | _=>ρ
noncomputable def frz (is:List Nat) (ρ:Rho):Rho:=is.foldl (fun ρ i=>frz1 i ρ) ρ
noncomputable def aIj (is:List Nat) (s:FS):FS:=fun ρ=>s (frz is ρ)
noncomputable def jZ (ρ:Rho) (r:R) (k:D->Out):Out:=match r with
 | .ok d=>k d
 | .ow xs=>k (.lst xs)
 | .ex c=> .ex c ρ
 | .bad=> .rt .bad
noncomputable def b7 (i:Nat) (e:F):FS:=fun ρ=>jZ ρ (e ρ) fun d=> .nx (ρ.set i (.sh d))
noncomputable def jP (i:Nat) (e:F):FS:=fun ρ=>match e ρ with
 | .ok d=> .nx (ρ.set i (.sh d))
 | .ow xs=> .nx (ρ.set i (.ow xs))
 | .ex c=> .ex c ρ
 | .bad=> .rt .bad
noncomputable def setN:List Nat->List D->Rho->Rho
 | i::is,d::ds,ρ=>setN is ds (ρ.set i (.sh d))
 | _,_,ρ=>ρ
noncomputable def aP5 (i:Nat) (op:Operator) (e:F):FS:=fun ρ=>match ρ[i]? with
 | some (.sh (.int a))=>jZ ρ (e ρ) fun d=>(match d,op with
  | .int b, .Add=> .nx (ρ.set i (.sh (.int (a+b))))
  | .int b, .Sub=> .nx (ρ.set i (.sh (.int (a - b))))
  | _,_=> .rt .bad)
 | _=> .rt .bad
noncomputable def eQ (e:F):FS:=fun ρ=>jZ ρ (e ρ) fun _=> .nx ρ
noncomputable def bT (e:F):FS:=fun ρ=>match e ρ with
 | .ok d=> .rt (.ok d)
 | .ow xs=> .rt (.ow xs)
 | .ex c=> .ex c ρ
 | .bad=> .rt .bad
noncomputable def aJx:FS:=fun _=> .rt (.ok .non)
noncomputable def bW:FS:=fun ρ=> .nx ρ
noncomputable def aOs:FS:=fun ρ=> .bk ρ
noncomputable def aJy:FS:=fun ρ=> .ct ρ
noncomputable def aU (a b:FS):FS:=fun ρ=>match a ρ with | .nx ρ'=>b ρ' | o=>o
noncomputable def sIf (c:F) (a b:FS):FS:=fun ρ=>match c ρ with
 | .ok (.bl true)=>a ρ
 | .ok (.bl false)=>b ρ
 | .ex c=> .ex c ρ
 | _=> .rt .bad
noncomputable def kP (c:Nat):FS:=fun ρ=> .ex c ρ
noncomputable def aDx (i:Nat) (e:F):FS:=fun ρ=>match ρ[i]? with
 | some (.ow xs)=>jZ ρ (e ρ) fun d=>if xs.length<LIM then .nx (ρ.set i (.ow (xs++[d]))) else .rt .bad
 | _=> .rt .bad
noncomputable def gC (i:Nat) (e:F):FS:=fun ρ=>match ρ[i]? with
 | some (.ow xs)=>jZ ρ (e ρ) fun d=>(match d with
  | .lst ys=>if xs.length+ys.length<=LIM then .nx (ρ.set i (.ow (xs++ys))) else .rt .bad
  | _=> .rt .bad)
 | _=> .rt .bad
noncomputable def aFn (i:Nat) (k e:F):FS:=fun ρ=>jZ ρ (e ρ) fun d=>match ρ[i]? with
 | some (.ow xs)=>jZ ρ (k ρ) fun y=>(match y with
  | .int j=>(match ixD xs.length j with | some m=> .nx (ρ.set i (.ow (xs.set m d))) | none=> .rt .bad)
  | _=> .rt .bad)
 | _=> .rt .bad
noncomputable def aPt (i:Nat) (k e:F):FS:=fun ρ=>match ρ[i]? with
 | some (.ow xs)=>jZ ρ (k ρ) fun y=>(match y with
  | .int j=>(match ixD xs.length j with
   | some m=>(match xs[m]? with
    | some (.int a)=>jZ ρ (e ρ) fun d=>(match d with
     | .int b=> .nx (ρ.set i (.ow (xs.set m (.int (a+b)))))
     | _=> .rt .bad)
    | _=> .rt .bad)
   | none=> .rt .bad)
  | _=> .rt .bad)
 | _=> .rt .bad
noncomputable def fJ (is:List Nat) (one:Bool) (d:D) (ρ:Rho):Option Rho:=match one,is with
 | true,[i]=>some (ρ.set i (.sh d))
 | false,is=>(match d with
  | .tup ds=>if ds.length=is.length then some (setN is ds ρ) else none
  | _=>none)
 | _,_=>none
noncomputable def bX (t:D->Rho->Option Rho) (b:FS):List D->Rho->Out
 | [],ρ=> .nx ρ
 | d::r,ρ=>match t d ρ with
  | none=> .rt .bad
  | some ρ1=>match b ρ1 with
   | .nx ρ2=>bX t b r ρ2
   | .ct ρ2=>bX t b r ρ2
   | .bk ρ2=> .nx ρ2
   | .rt r=> .rt r
   | .ex c ρ2=> .ex c ρ2
noncomputable def o9 (is:List Nat) (one:Bool) (it:F) (b:FS):FS:=fun ρ=>jZ ρ (it ρ) fun x=>match items x with
 | some ds=>bX (fJ is one) b ds ρ
 | none=> .rt .bad
noncomputable def xC (t i:Nat) (g:FS):FS:=fun ρ=>match ρ[i]? with
 | some (.ow ds)=>bX (fJ [t] true) g ds ρ
 | _=> .rt .bad
noncomputable def bL (c:F) (b:FS):Nat->FS
 | 0=>fun _=> .rt .bad
 | n+1=>fun ρ=>match c ρ with
  | .ok (.bl true)=>(match b ρ with
   | .nx ρ'=>bL c b n ρ'
   | .ct ρ'=>bL c b n ρ'
   | .bk ρ'=> .nx ρ'
   | .rt r=> .rt r
   | .ex k ρ'=> .ex k ρ')
  | .ok (.bl false)=> .nx ρ
  | .ex k=> .ex k ρ
  | _=> .rt .bad
noncomputable def tK (c:F) (b:FS):FS:=bL c b 1000
noncomputable def aMd:FS:=fun _=> .rt .bad
noncomputable def aDy (i j:Nat) (hit:Nat->Bool) (b:FS):FS:=fun ρ=>match b ρ with
 | .ex c ρ'=>if hit c then .nx ((ρ'.set i .no).set j (.sh (.exc c))) else .ex c ρ'
 | o=>o
noncomputable def fnOf (n:Nat) (b:FS):Fn:=fun ds=>match b (ds.map Slot.sh++ak (n - ds.length) .no) with
 | .rt (.ok d)=> .ok d
 | .rt (.ow xs)=> .ow xs
 | .rt _=> .bad
 | .nx _=> .ok .non
 | .ex c _=> .ex c
 | _=> .bad
inductive Py where
 | len | range | enum | zip | isin | int | bool | str | tuple | list | sum | all | any | sorted | min | max | abs | set
 deriving DecidableEq
inductive Gl where
 | fn (k n:Nat) (f:Fn) | exc (c:Nat) | verr | val (d:D) | py (p:Py)
noncomputable def hit (c e:Nat):Bool:=c==e||c==0||c==100
structure Ctx where
 tab:List (Str×Gl)
 fns:List (Nat×Fn)
 sc:Scope
 N:List Str
 bs:List Str
noncomputable def idx (x:Str):List Str->Option Nat
 | []=>none
 | y::r=>if x=y then some 0 else(idx x r).map (· +1)
noncomputable def loc (C:Ctx) (x:Str):Option Nat:=match C.sc.names.lookup x with
 | some .local=>idx x C.N
 | some .cell=>idx x C.N
 | some .free=>idx x C.N
 | _=>none
noncomputable def fV (C:Ctx) (x:Str):Option Nat:=match C.sc.names.lookup x with
 | some .cell=>idx x C.N
 | some .free=>idx x C.N
 | _=>none
noncomputable def glo (C:Ctx) (x:Str):Option Gl:=match C.sc.names.lookup x with
 | some .globalImplicit=>C.tab.lookup x
 | _=>none
noncomputable def isP:Gl->Option (D->Option Bool)
 | .py .int=>some fun d=>match d with | .int _=>some true | .bl _=>some true | .exc _=>none | .fn _=>none | _=>some false
 | .py .bool=>some fun d=>match d with | .bl _=>some true | .exc _=>none | .fn _=>none | _=>some false
 | .py .tuple=>some fun d=>match d with | .tup _=>some true | .exc _=>none | .fn _=>none | _=>some false
 | .py .list=>some fun d=>match d with | .lst _=>some true | .exc _=>none | .fn _=>none | _=>some false
 | .py .str=>some fun d=>match d with | .str _=>some true | .exc _=>none | .fn _=>none | _=>some false
 | .exc c=>some fun d=>match d with | .exc e=>some (hit c e) | _=>none
 | .verr=>some fun d=>match d with | .exc e=>some (hit 100 e) | _=>none
 | _=>none
noncomputable def kD:Const->Option D
 | .int i=>some (.int i)
 | .bool b=>some (.bl b)
 | .none=>some .non
 | .str x=>some (.str x)
 | _=>none
noncomputable def iM {α β:Type} (f:α->Option β):List α->Option (List β)
 | []=>some []
 | x::r=>match f x with
  | none=>none
  | some y=>(iM f r).map (y:: ·)
noncomputable def dU:Expr->Option (List Str×Nat)
 | .Name x _=>some ([x],0)
 | .Tuple es _ _=>(iM (fun(e:Expr)=>match e with | .Name x _=>some x | _=>none) es).bind fun xs=>if 2<=xs.length then some (xs,xs.length) else none
 | _=>none
noncomputable def bO (sc:Scope):List Str:=(sc.names.filter fun p=>p.2== .free).map (·.1)
noncomputable def pS (sc:Scope):List Str:=(sc.names.filter fun p=>p.2== .cell).map (·.1)
noncomputable def kQ (sc:Scope) (xs:List Str):Bool:=
 sc.kind== .function&&((pS sc).isEmpty||(decide (pS sc=xs)&&decide (xs.length=1)))&&xs.all (fun x=>sc.names.lookup x==some (if(pS sc).isEmpty then .local else .cell))&&
  sc.names.all (fun p=>p.2 != .local||sc.names.lookup p.1==some .local)&&decide (xs++bO sc).Nodup&&(xs++bO sc).all (fun x=>x != "__debug__"&&x != "__classdict__")&&(bO sc).all (fun x=>sc.names.lookup x==some .free)
noncomputable def aJz:Expr->Bool
 | .Name _ _=>true
 | .Subscript _ _ _=>true
 | .List _ _=>true
 | _=>false
noncomputable def one:List Expr->Option Expr
 | [a]=>some a
 | _=>none
noncomputable def two:List Expr->Option (Expr×Expr)
 | [a,b]=>some (a,b)
 | _=>none
noncomputable def gE:Expr->Option (Str×Pos)
 | .Name x p=>some (x,p)
 | _=>none
noncomputable def aPu:Expr->Option (List Expr×Nat×Pos)
 | .Tuple es k p=>some (es,k,p)
 | _=>none
noncomputable def aDz:Expr->Option (Option Expr×Option Expr)
 | .Slice lo hi st _=>(match st with | none=>some (lo,hi) | some _=>none)
 | _=>none
noncomputable def aFo:Expr->Bool
 | .Constant c _ _=>(match c with | .int i=>i==1 | _=>false)
 | _=>false
noncomputable def aOt:Expr->Bool
 | .UnaryOp op e _=>(match op with | .USub=>aFo e | _=>false)
 | _=>false
noncomputable def aBe:Expr->Bool
 | .Name _ _=>true
 | _=>false
noncomputable def aOu:Expr->Bool
 | .Subscript _ _ _=>true
 | _=>false
noncomputable def aNb:Expr->Bool
 | .Constant c _ _=>(match c with | .none=>true | _=>false)
 | _=>false
noncomputable def vR:Expr->Bool
 | .Constant c _ _=>(match c with | .int i=>i==2 | _=>false)
 | _=>false
noncomputable def aJ0:Expr->Option Expr
 | .Slice lo hi st _=>if hi.isNone&&(match st with | none=>false | some e=>vR e) then lo else none
 | _=>none
noncomputable def aOv:Expr->Bool
 | .Slice lo hi st _=>lo.isNone&&hi.isNone&&(match st with | none=>false | some e=>aOt e)
 | _=>false
noncomputable def aPv (e:Expr):Option (Str×Str):=(aPu e).bind fun(es,_)=>(two es).bind fun(u,v)=>(gE u).bind fun(x,_)=>(gE v).map fun(y,_)=>(x,y)
noncomputable def aJ1:Expr->Bool
 | .Constant c _ _=>(match c with | .str _=>true | _=>false)
 | _=>false
noncomputable def aJ2 (dE:Expr->Option F) (C:Ctx) (a:Expr):Option F:=match a with
 | .Call f as kws _=>if kws.isEmpty then(gE f).bind fun(x,_)=>(one as).bind fun b=>(match loc C x,glo C x with
  | none,some (.py .range)=>dE b
  | _,_=>none) else none
 | _=>none
noncomputable def aFp (dL:Expr->Option F) (C:Ctx) (a:Expr):Option F:=match a with
 | .Call f as kws _=>if kws.isEmpty then(gE f).bind fun(x,_)=>(one as).bind fun b=>(match loc C x,glo C x with
  | none,some (.py .set)=>dL b
  | _,_=>none) else none
 | _=>none
noncomputable def aFq (dE dL:Expr->Option F) (C:Ctx) (p:Py) (as:List Expr):Option F:=match p with
 | .len=>(one as).bind fun a=>(dL a).map fun f=>aB eU [f]
 | .int=>(one as).bind fun a=>(dL a).map fun f=>aB aJu [f]
 | .tuple=>(one as).bind fun a=>(dL a).map fun f=>aB dY [f]
 | .list=>(one as).bind fun a=>(dL a).map fun f=>aB aFk [f]
 | .sum=>(one as).bind fun a=>(dL a).map fun f=>aB xA [f]
 | .all=>(one as).bind fun a=>(dL a).map fun f=>aB aDv [f]
 | .any=>none
 | .abs=>(one as).bind fun a=>(dL a).map fun f=>aB aM6 [f]
 | .sorted=>(one as).bind fun a=>(match dL a with
  | some f=>some (aB fM [f])
  | none=>(aFp dL C a).map fun f=>aB dSS [f])
 | .min=>none
 | .max=>(match as with
  | [a]=>(dL a).map fun f=>aB aFl [f]
  | as=>(two as).bind fun(a,b)=>(dE a).bind fun f=>(dE b).map fun h=>aB aOp [f,h])
 | .isin=>(two as).bind fun(a,b)=>(gE b).bind fun(t,_)=>(dE a).bind fun f=>(glo C t).bind fun g=>(isP g).map fun P=>rIs P f
 | _=>none
noncomputable def xD (dE:Expr->Option F) (C:Ctx) (tt:Bool) (x:Str) (as:List Expr):Option F:=match glo C x,as with
 | some (.py .range),[a]=>(dE a).map aK
 | some (.py .zip),[a,b]=>if tt then(dE a).bind fun f=>(dE b).map fun g=>vP f g else none
 | some (.py .enum),[a]=>if tt then(dE a).map aFj else none
 | _,_=>none
noncomputable def bsN (C:Ctx) (e:Expr):Bool:=match e with | .Name x _=>C.bs.contains x | _=>false
noncomputable def aD0 (x:Str):Str:=x++"{}"
noncomputable def aPw:CmpOp->Bool
 | .In=>true
 | .NotIn=>true
 | _=>false
noncomputable def inN (C:Ctx) (op:CmpOp) (e:Expr):Option Nat:=if aPw op&&bsN C e then(gE e).bind fun(x,_)=>loc C x else none
mutual
noncomputable def cU:Nat->Ctx->Expr->Option F
 | 0,_,_=>none
 | n+1,C,e=>match e with
  | .Name x _=>(match loc C x with
   | some i=>some (aA i)
   | none=>match glo C x with
    | some (.val d)=>some (rK d)
    | some (.fn k _ _)=>some (rK (.fn k))
    | _=>none)
  | .Constant c _ _=>(kD c).map rK
  | .BinOp a op b _=>(cU n C a).bind fun f=>(cU n C b).map fun g=>aJ op f g
  | .UnaryOp op a _=>(cU n C a).bind fun f=>(match op with | .Not=>some (jO f) | .USub=>some (aAw f) | _=>none)
  | .BoolOp op es p=>(match es with
   | [a,b]=>(cU n C a).bind fun f=>(cU n C b).map fun g=>(match op with | .And=>gX f g | .Or=>rOr f g)
   | a::b::c::r=>(cU n C a).bind fun f=>(cU n C (.BoolOp op (b::c::r) p)).map fun g=>(match op with | .And=>gX f g | .Or=>rOr f g)
   | _=>none)
  | .Compare a ops cs _=>(match ops with
   | [op]=>(one cs).bind fun b=>(if bsN C a then tM n C a else cU n C a).bind fun f=>(match inN C op b with
    | some i=>some (aFm op f i)
    | none=>(if bsN C b then tM n C b else cU n C b).map fun g=>aP op f g)
   | [op,op']=>(two cs).bind fun(b,c)=>(cU n C a).bind fun f=>(cU n C b).bind fun g=>(cU n C c).map fun h=>gB op op' f g h
   | _=>none)
  | .IfExp c a b _=>(cU n C c).bind fun h=>(cU n C a).bind fun f=>(cU n C b).map fun g=>rIf (if aBe c then aMc h else h) f g
  | .Tuple es _ _=>if es.length<=1000 then(iM (cU n C) es).map eG else none
  | .List es _=>if es.length<=1000 then(iM (cU n C) es).map cM else none
  | .Subscript a b _=>(tM n C a).bind fun f=>(match aDz b with
   | some (lo,hi)=>(match lo with
    | none=>some none
    | some l=>(cU n C l).map some).bind fun l=>(match hi with
    | none=>some none
    | some h=>(cU n C h).map some).map fun h=>gS f l h
   | none=>if aOv b then some (aM9 f) else(match aJ0 b with
    | some l=>(cU n C l).map fun g=>xB f g
    | none=>(cU n C b).map fun g=>rIx f g))
  | .ListComp elt gens sc _=>(match gens with
   | [⟨tg,it,ifs,as⟩]=>if as=0 then(dU tg).bind fun(xs,k)=>(aFr n C (k != 0) it).bind fun fi=>if kQ sc xs then
     (iM (fun x=>fV C x) (bO sc)).bind fun cs=>(match ifs with
     | []=>some none
     | [c]=>(cU n { C with sc:=sc,N:=xs++bO sc } c).map some
     | _=>none).bind fun c=>(cU n { C with sc:=sc,N:=xs++bO sc } elt).map fun e=>aF k cs fi c e
    else none else none
   | _=>none)
  | .Call f as kws cp=>if kws.isEmpty then(match f with
   | .Name x _=>(match loc C x with
    | some _=>none
    | none=>(match glo C x with
     | some (.fn _ k f)=>if as.isEmpty then none else(iM (cU n C) as).bind fun fs=>if fs.length=k then some (aB f fs) else none
     | some (.py p)=>aFq (cU n C) (tM n C) C p as
     | _=>none))
   | .Attribute o m ap=>(one as).bind fun a=>if aJz o&&ap.endLine==cp.line then(tM n C o).bind fun f=>(cU n C a).bind fun g=>
     if m="count" then some (pP tJ f g) else if m="index" then some (pP pR f g) else none else none
   | _=>none) else none
  | _=>none
noncomputable def tM:Nat->Ctx->Expr->Option F
 | 0,_,_=>none
 | n+1,C,e=>match e with
  | .Name x p=>(match loc C x with
   | some i=>some (aC i)
   | none=>cU n C (.Name x p))
  | e=>cU n C e
noncomputable def aFr:Nat->Ctx->Bool->Expr->Option F
 | 0,_,_,_=>none
 | n+1,C,tt,e=>match e with
  | .Call f as kws q=>(match f with
   | .Name x p=>(match loc C x,glo C x,kws with
    | none,some (.py .range),[]=>xD (cU n C) C tt x as
    | none,some (.py .zip),[]=>xD (cU n C) C tt x as
    | none,some (.py .enum),[]=>xD (cU n C) C tt x as
    | _,_,_=>cU n C (.Call (.Name x p) as kws q))
   | f=>cU n C (.Call f as kws q))
  | e=>tM n C e
end
noncomputable def gv:Nat->Expr->List Str
 | 0,_=>[]
 | n+1,e=>match e with
  | .Name x _=>[x]
  | .BinOp a _ b _=>gv n a++gv n b
  | .UnaryOp _ a _=>gv n a
  | .BoolOp _ as _=>as.flatMap (gv n)
  | .Compare a [_] [b] _=>(if aBe a then [] else gv n a)++(if aBe b then [] else gv n b)
  | .Compare a _ bs _=>gv n a++bs.flatMap (gv n)
  | .IfExp a b c _=>gv n a++gv n b++gv n c
  | .Tuple es _ _=>es.flatMap (gv n)
  | .List es _=>es.flatMap (gv n)
  | .Slice lo hi _ _=>(lo.map (gv n)).getD []++(hi.map (gv n)).getD []
  | .Subscript (.Name _ _) b _=>gv n b
  | .Subscript a b _=>gv n a++gv n b
  | .ListComp elt [⟨_, .Name _ _,ifs,_⟩] _ _=>ifs.flatMap (gv n)++gv n elt
  | .ListComp elt [⟨_,it,ifs,_⟩] _ _=>gv n it++ifs.flatMap (gv n)++gv n elt
  | .Call (.Name x _) as _ _=>if x="len"\/x="tuple"\/x="list"\/x="sum"\/x="sorted"\/x="all"\/x="any" then
    as.flatMap fun a=>match a with | .Name _ _=>[] | a=>gv n a else x::as.flatMap (gv n)
  | .Call (.Attribute (.Name _ _) _ _) as _ _=>as.flatMap (gv n)
  | .Call (.Attribute o _ _) as _ _=>gv n o++as.flatMap (gv n)
  | .Call f as _ _=>gv n f++as.flatMap (gv n)
  | _=>[]
noncomputable def kR (C:Ctx) (e:Expr):List Nat:=match C.bs with
 | []=>[]
 | _=>((gv 50 e).filter fun x=>C.bs.contains x).filterMap fun x=>loc C x
noncomputable def eR (is:List Nat) (s:FS):FS:=match is with
 | []=>s
 | is=>aIj is s
noncomputable def aBf:Nat->List Stmt->List Str
 | 0,_=>[]
 | n+1,ss=>ss.flatMap fun s=>match s with
  | .Assign [.Subscript (.Name x _) _ _] _ _=>[x]
  | .Assign [.Name x _] (.Dict [] [] _) _=>[aD0 x]
  | .Assign [.Tuple [_, .Name x _] _ _] (.Tuple [_, .Dict [] [] _] _ _) _=>[aD0 x]
  | .AugAssign (.Subscript (.Name x _) _ _) _ _ _=>[x]
  | .Assign [.Tuple [.Subscript (.Name x _) _ _,_] _ _] _ _=>[x]
  | .Expr (.Call (.Attribute (.Name x _) m _) _ _ _) _=>if m="append"\/m="extend"\/m="remove" then [x] else []
  | .If _ a b _=>aBf n a++aBf n b
  | .For _ _ b _ _=>aBf n b
  | .While _ b _ _=>aBf n b
  | _=>[]
noncomputable def aMe:Operator->Bool
 | .Add=>true
 | _=>false
noncomputable def aOw:Operator->Bool
 | .Add=>true
 | .Sub=>true
 | _=>false
noncomputable def aOx (C:Ctx) (tt:Bool) (it:Expr):Option F:=match it with
 | .Name x p=>cU 50 C (.Name x p)
 | it=>aFr 50 C tt it
noncomputable def aJ3:List Stmt->Option Stmt
 | [s]=>some s
 | _=>none
noncomputable def aOy:Stmt->Option (Str×Str)
 | .Assign ts e _=>(one ts).bind fun t=>(gE t).bind fun(x,_)=>(gE e).map fun(y,_)=>(x,y)
 | _=>none
noncomputable def aNc (C:Ctx) (hs:List ExceptHandler):Option (Nat×Nat):=match hs with
 | [.ExceptHandler ty nm b _]=>ty.bind fun te=>nm.bind fun e=>(gE te).bind fun(cx,_)=>(aJ3 b).bind fun s=>(aOy s).bind fun(x,e')=>(match loc C cx,glo C cx with
  | none,some (.exc c)=>if c=0/\e=e' then(loc C e).bind fun i=>(loc C x).bind fun j=>if C.sc.names.lookup e==some .local&&i != j&&C.bs.isEmpty then some (i,j) else none else none
  | _,_=>none)
 | _=>none
noncomputable def aNd (s:Stmt):Option (Str×Expr):=match s with
 | .Expr e _=>(match e with
  | .Call f as kws cp=>if kws.isEmpty then(match f with
   | .Attribute o m ap=>(gE o).bind fun(z,_)=>(one as).bind fun e=>if m="extend"/\(ap.endLine==cp.line)=true then some (z,e) else none
   | _=>none) else none
  | _=>none)
 | _=>none
noncomputable def xE (C:Ctx) (tg it:Expr) (b:List Stmt):Option (Nat×Nat×Nat×Expr):=(gE tg).bind fun(x,_)=>(gE it).bind fun(y,_)=>(aJ3 b).bind fun s=>(aNd s).bind fun(z,e)=>(loc C x).bind fun t=>(loc C y).bind fun i=>(loc C z).bind fun j=>
 if C.bs.contains y&&C.bs.contains z&& !C.bs.contains x&&t != i&&i != j&&(kR C e).isEmpty then some (t,i,j,e) else none
mutual
noncomputable def aFs:Nat->Bool->Ctx->Stmt->Option FS
 | 0,_,_,_=>none
 | n+1,t,C,s=>match s with
  | .Pass _=>some bW
  | .Break _=>some aOs
  | .Continue _=>some aJy
  | .Return v _=>(match v with
   | none=>some aJx
   | some e=>(match gE e with
    | some (x,_)=>(match loc C x with
     | some i=>if C.bs.contains x then some (bT (aBd i)) else some (bT (aA i))
     | none=>(cU 50 C e).map bT)
    | none=>(cU 50 C e).map fun f=>eR (kR C e) (bT f)))
  | .Assign ts e _=>(one ts).bind fun tg=>(match tg with
   | .Name x _=>(loc C x).bind fun i=>(cU 50 C e).map fun f=>eR (kR C e) (if C.bs.contains x then jP i f else b7 i f)
   | .Subscript o k _=>(gE o).bind fun(x,_)=>(loc C x).bind fun i=>if C.bs.contains x then(cU 50 C e).bind fun f=>(cU 50 C k).map fun g=>eR (kR C e++kR C k) (aFn i g f) else none
   | _=>none)
  | .Expr e _=>(match e with
   | .Call f as kws cp=>if kws.isEmpty then(match f with
    | .Attribute o m ap=>(gE o).bind fun(x,_)=>(one as).bind fun e=>(loc C x).bind fun i=>if C.bs.contains x&&ap.endLine==cp.line then(cU 50 C e).bind fun f=>
      if m="append" then some (eR (kR C e) (aDx i f)) else if m="extend" then some (eR (kR C e) (gC i f)) else none else none
    | .Name x p=>(cU 50 C (.Call (.Name x p) as [] cp)).map fun f=>eR (kR C (.Call (.Name x p) as [] cp)) (eQ f)
    | _=>none) else none
   | _=>none)
  | .If c a b _=>(cU 50 C c).bind fun f=>(j0 n t C a).bind fun g=>(j0 n t C b).map fun h=>eR (kR C c) (sIf f g h)
  | .For tg it b els _=>if t|| !els.isEmpty then none else(match xE C tg it b with
   | some (ti,i,j,e)=>(cU 50 C e).map fun f=>xC ti i (gC j f)
   | none=>(dU tg).bind fun(xs,k)=>(aOx C false it).bind fun f=>(iM (fun x=>loc C x) xs).bind fun is=>if xs.all (fun x=> !C.bs.contains x) then
    (j0 n t C b).map fun g=>eR (kR C it) (o9 is (k==0) f g) else none)
  | .While c b els _=>if t|| !els.isEmpty then none else(cU 50 C c).bind fun f=>(j0 n t C b).map fun g=>eR (kR C c) (tK f g)
  | .Raise x c _=>if t||c.isSome then none else x.bind fun e=>(match e with
   | .Call f as kws _=>if kws.isEmpty then(gE f).bind fun(x,_)=>(one as).bind fun a=>if aJ1 a then(match loc C x,glo C x with
    | none,some (.exc c)=>some (kP c)
    | _,_=>none) else none else none
   | _=>none)
  | .Try b hs els fin _=>if t|| !els.isEmpty|| !fin.isEmpty then none else(aNc C hs).bind fun(i,j)=>(j0 n true C b).map fun g=>aDy i j (fun _=>true) g
  | _=>none
noncomputable def j0:Nat->Bool->Ctx->List Stmt->Option FS
 | 0,_,_,_=>none
 | n+1,t,C,ss=>match ss with
  | []=>some bW
  | [a]=>some ((aFs n t C a).getD aMd)
  | a::r=>(j0 n t C r).map fun g=>aU ((aFs n t C a).getD aMd) g
end
noncomputable def jQ (a:Arguments):Option (List Str):=if a.posonlyargs.isEmpty&&a.vararg.isNone&&a.kwonlyargs.isEmpty&&a.kwarg.isNone&&a.defaults.isEmpty then some (a.args.map (·.arg)) else none
noncomputable def bM (sc:Scope):List Str:=(sc.names.filter fun p=>p.2== .local||p.2== .cell).map (·.1)
noncomputable def i8 (N P:List Str) (sc:Scope):Bool:=
 sc.kind== .function&& !sc.isCoroutine&& !sc.isGenerator&&decide N.Nodup&&decide (N.take P.length=P)&&
  P.all (fun x=>sc.names.lookup x==some .local||sc.names.lookup x==some .cell)&&sc.names.all (fun p=>p.2 != .free)&&N.all (fun x=>x != "__debug__"&&x != "__classdict__")
noncomputable def xF (tab:List (Str×Gl)) (fns:List (Nat×Fn)) (s:Stmt):Option (Nat×Fn):=match s with
 | .FunctionDef _ as b _ _ _ sc _ _ _=>(jQ as).bind fun P=>if i8 (bM sc) P sc then
   (j0 100 false ⟨tab,fns,sc,bM sc,aBf 50 b⟩ b).map fun g=>(P.length,fnOf (bM sc).length g) else none
 | _=>none
noncomputable def aIk (g:Gl):D->Option Bool:=(isP g).getD fun _=>none
noncomputable def kS:D->Option Bool:=aIk (.py .int)
noncomputable def rS:D->Option Bool:=aIk (.py .bool)
noncomputable def cV:D->Option Bool:=aIk (.py .tuple)
noncomputable def aFt:D->Option Bool:=aIk (.py .list)
noncomputable def rT:Nat->D->Option Bool
 | 100=>aIk .verr
 | c=>aIk (.exc c)
noncomputable def pT (m:Fn->Fn):Nat->Fn
 | 0=>fun _=> .bad
 | n+1=>m (pT m n)
mutual
noncomputable def bJ:D->PyData
 | .non=> .none
 | .bl b=> .bool b
 | .int i=> .int i
 | .str x=> .str x
 | .tup xs=> .tuple (aQ xs)
 | .lst xs=> .list (aQ xs)
 | .exc _=> .none
 | .fn _=> .none
noncomputable def aQ:List D->List PyData
 | []=>[]
 | x::xs=>bJ x::aQ xs
end
mutual
theorem fW: ∀ {d:D},plain d=true->(bJ d).canLay0=true
 | .non,_=>by simp [bJ,PyData.canLay0]
 | .bl _,_=>by simp [bJ,PyData.canLay0]
 | .int _,_=>by simp [bJ,PyData.canLay0]
 | .str x,h=>by
  unfold plain at h
  simp only [bJ,PyData.canLay0]
  exact h
 | .tup xs,h=>by
  simp only [bJ,PyData.canLay0]
  exact rV (by simpa [plain] using h)
 | .lst xs,h=>by
  simp only [bJ,PyData.canLay0]
  exact rV (by simpa [plain] using h)
 | .exc _,h=>by simp [plain] at h
 | .fn _,h=>by simp [plain] at h
theorem rV: ∀ {ds:List D},aH ds=true->PyData.canLayAll0 (aQ ds)=true
 | [],_=>by simp [aQ,PyData.canLayAll0]
 | d::ds,h=>by
  have h':plain d=true/\aH ds=true:=by simpa [aH] using h
  simp only [aQ,PyData.canLayAll0,fW h'.1,rV h'.2,Bool.and_self]
end
mutual
theorem fX: ∀ (d:D),(bJ d).depth=dep d
 | .non=>by simp [bJ,PyData.depth,dep]
 | .bl _=>by simp [bJ,PyData.depth,dep]
 | .int _=>by simp [bJ,PyData.depth,dep]
 | .str x=>by simp [bJ,PyData.depth,dep]
 | .tup xs=>by simp [bJ,PyData.depth,dep,rW xs]
 | .lst xs=>by simp [bJ,PyData.depth,dep,rW xs]
 | .exc _=>by simp [bJ,PyData.depth,dep]
 | .fn _=>by simp [bJ,PyData.depth,dep]
theorem rW: ∀ (ds:List D),PyData.depthAll (aQ ds)=jM ds
 | []=>by simp [aQ,PyData.depthAll,jM]
 | d::ds=>by simp [aQ,PyData.depthAll,jM,fX d,rW ds]
end
theorem aD1 (b:Bool):b2i b=if b then 1 else 0:=rfl
mutual
theorem gF: ∀ (x y:D),plain x=true->plain y=true->PyData.eqv (bJ x) (bJ y)=deq x y
 | .non,y,_,h=>by cases y<;>simp [plain] at h<;>simp [bJ,PyData.eqv,deq]
 | .bl a,y,_,h=>by cases y<;>simp [plain] at h<;>simp [bJ,PyData.eqv,deq,aD1]
 | .int a,y,_,h=>by cases y<;>simp [plain] at h<;>simp [bJ,PyData.eqv,deq,aD1]
 | .str a,y,_,h=>by cases y<;>simp [plain] at h<;>simp [bJ,PyData.eqv,deq]
 | .tup xs,y,g,h=>by
  cases y with
  | tup ys=>simpa [bJ,PyData.eqv,deq] using nR xs ys (by simpa [plain] using g) (by simpa [plain] using h)
  | _=>simp [plain] at h<;>simp [bJ,PyData.eqv,deq]
 | .lst xs,y,g,h=>by
  cases y with
  | lst ys=>simpa [bJ,PyData.eqv,deq] using nR xs ys (by simpa [plain] using g) (by simpa [plain] using h)
  | _=>simp [plain] at h<;>simp [bJ,PyData.eqv,deq]
 | .exc _,_,g,_=>by simp [plain] at g
 | .fn _,_,g,_=>by simp [plain] at g
theorem nR: ∀ (xs ys:List D),aH xs=true->aH ys=true->PyData.eqvAll (aQ xs) (aQ ys)=mG xs ys
 | [],[],_,_=>by simp [aQ,PyData.eqvAll,mG]
 | [],_::_,_,_=>by simp [aQ,PyData.eqvAll,mG]
 | _::_,[],_,_=>by simp [aQ,PyData.eqvAll,mG]
 | x::xs,y::ys,g,h=>by
  have g':plain x=true/\aH xs=true:=by simpa [aH] using g
  have h':plain y=true/\aH ys=true:=by simpa [aH] using h
  simp only [aQ,PyData.eqvAll,mG,gF x y g'.1 h'.1,nR xs ys g'.2 h'.2]
end
abbrev St:=L2.St
structure Ad where
 cls:Nat->Addr
 fnA:Nat->Addr
 nb:Nat
def nS (h:Heap) (x C:Addr):Prop:= ∃ o vs,h.get? x=some o/\o.cls= .ref C/\o.data= .fields vs
noncomputable def aIl (C a:Addr):HO:= .ext fun h=>nS h a C
section
variable (K:PySem.W.Frag) (ad:Ad)
mutual
noncomputable def Rep (G:Hp):D->V->Prop
 | .non,v=>v= .non
 | .bl b,v=>v= .bl b
 | .int i,v=>v= .int i
 | .str x,v=>v= .str x
 | .tup ds,v=> ∃ a vs,v= .ref a/\SqT K G a vs/\aG G ds vs
 | .lst ds,v=> ∃ a vs,v= .ref a/\SqL K G a vs/\aG G ds vs
 | .exc c,v=> ∃ a,v= .ref a/\G a=some (aIl (ad.cls c) a)
 | .fn k,v=>v= .ref (ad.fnA k)
noncomputable def aG (G:Hp):List D->List V->Prop
 | [],vs=>vs=[]
 | d::ds,vs=> ∃ v r,vs=v::r/\Rep G d v/\aG G ds r
end
end
section
variable {K:PySem.W.Frag} {ad:Ad} {G G' H H':Hp}
theorem _root_.L2.Same.seqT {K:PySem.W.Frag} {H H':Hp} {a:Addr} {xs:List V} (e:Same H H') (h:SqT K H a xs):SqT K H' a xs:=by
 rcases h with (h | ⟨o,h⟩) | h
 ·exact .inl (.inl (e _ _ h))
 ·exact .inl (.inr ⟨o,e _ _ h⟩)
 ·exact .inr h
mutual
theorem Rep.mono (e:Same G G'): ∀ {d:D} {v:V},Rep K ad G d v->Rep K ad G' d v
 | .non,_,h=>h
 | .bl _,_,h=>h
 | .int _,_,h=>h
 | .str _,_,h=>h
 | .tup ds,v,h=>by
  unfold Rep at h ⊢
  obtain⟨a,vs,h1,h2,h3⟩:=h
  exact⟨a,vs,h1,e.seqT h2,aG.mono e h3⟩
 | .lst ds,v,h=>by
  unfold Rep at h ⊢
  obtain⟨a,vs,h1,h2,h3⟩:=h
  exact⟨a,vs,h1,e.seq h2,aG.mono e h3⟩
 | .exc _,_,h=>by
  unfold Rep at h ⊢
  obtain⟨a,h1,h2⟩:=h
  exact⟨a,h1,e _ _ h2⟩
 | .fn _,_,h=>h
theorem aG.mono (e:Same G G'): ∀ {ds:List D} {vs:List V},aG K ad G ds vs->aG K ad G' ds vs
 | [],_,h=>h
 | d::ds,vs,h=>by
  unfold aG at h ⊢
  obtain⟨v,r,h1,h2,h3⟩:=h
  exact⟨v,r,h1,Rep.mono e h2,aG.mono e h3⟩
end
theorem aG.length: ∀ {ds:List D} {vs:List V},aG K ad G ds vs->vs.length=ds.length
 | [],_,h=>by
  unfold aG at h
  subst h
  rfl
 | d::ds,vs,h=>by
  unfold aG at h
  obtain⟨v,r,rfl,_,h3⟩:=h
  simp [aG.length h3]
theorem aG.nil:aG K ad G [] []:=by unfold aG;rfl
theorem aG.cons {d:D} {v:V} {ds:List D} {vs:List V} (h:Rep K ad G d v) (t:aG K ad G ds vs):aG K ad G (d::ds) (v::vs):=by
 unfold aG
 exact⟨v,vs,rfl,h,t⟩
theorem aG.get: ∀ {ds:List D} {vs:List V} {i:Nat} {d:D},aG K ad G ds vs->ds[i]? =some d-> ∃ v,vs[i]? =some v/\Rep K ad G d v
 | [],_,_,_,_,e=>by simp at e
 | d::ds,vs,i,d',h,e=>by
  unfold aG at h
  obtain⟨v,r,rfl,h2,h3⟩:=h
  cases i with
  | zero=>
   simp at e
   subst e
   exact⟨v,rfl,h2⟩
  | succ i=>
   obtain⟨w,a,b⟩:=aG.get (i:=i) (d:=d') h3 (by simpa using e)
   exact⟨w,by simpa using a,b⟩
theorem aG.append: ∀ {ds es:List D} {vs ws:List V},aG K ad G ds vs->aG K ad G es ws->aG K ad G (ds++es) (vs++ws)
 | [],_,_,_,h,t=>by
  unfold aG at h
  subst h
  exact t
 | d::ds,es,vs,ws,h,t=>by
  unfold aG at h
  obtain⟨v,r,rfl,h2,h3⟩:=h
  exact aG.cons h2 (aG.append h3 t)
theorem aG.drop: ∀ (n:Nat) {ds:List D} {vs:List V},aG K ad G ds vs->aG K ad G (ds.drop n) (vs.drop n)
 | 0,_,_,h=>h
 | n+1,[],_,h=>by
  unfold aG at h
  subst h
  exact aG.nil
 | n+1,d::ds,vs,h=>by
  unfold aG at h
  obtain⟨v,r,rfl,h2,h3⟩:=h
  exact aG.drop n h3
theorem aG.take: ∀ (n:Nat) {ds:List D} {vs:List V},aG K ad G ds vs->aG K ad G (ds.take n) (vs.take n)
 | 0,_,_,_=>aG.nil
 | n+1,[],_,h=>by
  unfold aG at h
  subst h
  exact aG.nil
 | n+1,d::ds,vs,h=>by
  unfold aG at h
  obtain⟨v,r,rfl,h2,h3⟩:=h
  exact aG.cons h2 (aG.take n h3)
theorem aG.set {d:D} {v:V} (q:Rep K ad G d v): ∀ (n:Nat) {ds:List D} {vs:List V},aG K ad G ds vs->aG K ad G (ds.set n d) (vs.set n v)
 | _,[],_,h=>by
  unfold aG at h
  subst h
  exact aG.nil
 | 0,_::ds,vs,h=>by
  unfold aG at h
  obtain⟨w,r,rfl,h2,h3⟩:=h
  exact aG.cons q h3
 | n+1,e::ds,vs,h=>by
  unfold aG at h
  obtain⟨w,r,rfl,h2,h3⟩:=h
  exact aG.cons h2 (aG.set q n h3)
theorem aG.rep {ds:List D} {vs:List V} (h:aG K ad G ds vs): ∀ k:Nat,aG K ad G (ak k ds).flatten (ak k vs).flatten
 | 0=>aG.nil
 | k+1=>by
  simp only [List.replicate_succ,List.flatten_cons]
  exact aG.append h (aG.rep h k)
theorem aG.map_int: ∀ {ns:List Int},aG K ad G (ns.map D.int) (ns.map V.int)
 | []=>aG.nil
 | _::_=>aG.cons (by unfold Rep;rfl) aG.map_int
structure Step (G H G' H':Hp):Prop where
 sg:Same G G'
 gh:Same G' H'
 sh:Same H H'
 nw: ∀ b,G b=none->G' b≠none->H b=none
theorem pU (e:Same H H') {b:Addr} (h:H' b=none):H b=none:=e.free h
theorem Step.refl (h:Same G H):Step G H G H:=⟨Same.refl _,h,Same.refl _,fun b h1 h2=>absurd h1 h2⟩
theorem Step.trans {G1 H1 G2 H2:Hp} (a:Step G H G1 H1) (b:Step G1 H1 G2 H2):Step G H G2 H2:=
 ⟨a.sg.trans b.sg,b.gh,a.sh.trans b.sh,fun x h1 h2=>by
  cases q:G1 x with
  | none=>exact a.sh.free (b.nw x q h2)
  | some o=>exact a.nw x h1 (by rw [q];exact fun z=>nomatch z)⟩
theorem Same.upd_new {p:Addr} {o:HO} (h:H p=none):Same H (upd H p o):=fun b u e=>by rw [aM (bF e h)];exact e
theorem Step.new {p:Addr} {o:HO} (h:Same G H) (n:H p=none):Step G H (upd G p o) (upd H p o):=by
 have gn:G p=none:=h.free n
 refine⟨Same.upd_new gn,fun b u e=> ?_,Same.upd_new n,fun b h1 h2=> ?_⟩
 ·by_cases q:b=p
  ·subst q
   rw [a9] at e ⊢
   exact e
  ·rw [aM q] at e ⊢
   exact h b u e
 ·by_cases q:b=p
  ·subst q
   exact n
  ·rw [aM q] at h2
   exact absurd h1 h2
theorem Step.own {p:Addr} {o:HO} (h:Same G H) (n:H p=none):Step G H G (upd H p o):=
 ⟨Same.refl _,h.trans (Same.upd_new n),Same.upd_new n,fun b h1 h2=>absurd h1 h2⟩
theorem Step.shareO {p:Addr} {o:HO} (s:Step G H G' H') (n:H p=none) (m:G' p=none) (e:H' p=some o):Step G H (upd G' p o) H':=by
 refine⟨s.sg.trans (Same.upd_new m),fun b u q=> ?_,s.sh,fun b h1 h2=> ?_⟩
 ·by_cases z:b=p
  ·subst z
   rw [a9] at q
   rw [e]
   exact q
  ·rw [aM z] at q
   exact s.gh b u q
 ·by_cases z:b=p
  ·subst z
   exact n
  ·rw [aM z] at h2
   exact s.nw b h1 h2
theorem Step.share {p:Addr} {vs:List V} (s:Step G H G' H') (n:H p=none) (m:G' p=none) (e:H' p=some (.lst vs)):Step G H (upd G' p (.lst vs)) H':=s.shareO n m e
mutual
noncomputable def hD:D->Int
 | .non=>0xFCA86420
 | .int i=>hashInt i
 | .tup xs=>reduceHash (Builtin.Tuple.tupleHashOf (hDs xs))
 | _=>0
noncomputable def hDs:List D->List Int
 | []=>[]
 | x::xs=>hD x::hDs xs
end
def aPx (h:Heap) (a:Addr) (es:Nat×List (Int×Addr×V)):Prop:=(a==sysModules)=false/\es.2.length<=200000/\ ∃ o ar xs,h.get? a=some o/\o.ExactDict/\o.data= .dict ar es.1/\ar.toList=xs.map (fun x:Int×Addr×Value=>(⟨x.1, .ref x.2.1,x.2.2⟩:DictEntry))/\
 Paired (fun(p:Int×Addr×V) (q:Int×Addr×Value)=>p.1=q.1/\p.2.1=q.2.1/\b9 p.2.2 q.2.2) es.2 xs
noncomputable def dcO (a:Addr) (es:Nat×List (Int×Addr×V)):HO:= .ext fun h=>aPx h a es
noncomputable def DL (K:PySem.W.Frag) (ad:Ad) (G:Hp):List (D×D)->List (Int×Addr×V)->Prop:=Paired fun p q=>q.1=hD p.1/\Rep K ad G p.1 (.ref q.2.1)/\Rep K ad G p.2 q.2.2
def DR (K:PySem.W.Frag) (ad:Ad) (G:Hp) (kvs:List (D×D)) (es:Nat×List (Int×Addr×V)):Prop:=DL K ad G kvs es.2
def KOk (kvs:List (D×D)):Prop:=(∀ p∈kvs,aNa p.1=true)/\kvs.Pairwise fun p q=>deq p.1 q.1=false
theorem DR.mono {K:PySem.W.Frag} {ad:Ad} {G G':Hp} {kvs:List (D×D)} {es:Nat×List (Int×Addr×V)} (h:DR K ad G kvs es) (e:Same G G'):DR K ad G' kvs es:=Paired.mapP h fun _ _ z=>⟨z.1,z.2.1.mono e,z.2.2.mono e⟩
noncomputable def SLi (K:PySem.W.Frag) (ad:Ad) (G H:Hp):Slot->Option V->Prop
 | .no,_=>True
 | .sh d,ov=> ∃ v,ov=some v/\Rep K ad G d v
 | .ow xs,ov=> ∃ a vs,ov=some (.ref a)/\G a=none/\H a=some (.lst vs)/\aG K ad G xs vs
 | .dc kvs,ov=> ∃ a es,ov=some (.ref a)/\G a=none/\H a=some (dcO a es)/\DR K ad G kvs es/\KOk kvs
 | .sd kvs,ov=> ∃ a es,ov=some (.ref a)/\G a=some (dcO a es)/\H a=some (dcO a es)/\DR K ad G kvs es/\KOk kvs
structure SL (K:PySem.W.Frag) (ad:Ad) (G H:Hp) (ρ:Rho) (σ:St):Prop where
 len:ρ.length=σ.length
 at_: ∀ (i:Nat) (s:Slot),ρ[i]? =some s-> ∃ ov,σ[i]? =some ov/\SLi K ad G H s ov
theorem SLi.step (st:Step G H G' H'): ∀ {s:Slot} {ov:Option V},SLi K ad G H s ov->SLi K ad G' H' s ov
 | .no,_,_=>trivial
 | .sh d,_,⟨v,h1,h2⟩=>⟨v,h1,h2.mono st.sg⟩
 | .ow xs,_,⟨a,vs,h1,h2,h3,h4⟩=>by
  refine⟨a,vs,h1, ?_,st.sh _ _ h3,h4.mono st.sg⟩
  cases q:G' a with
  | none=>rfl
  | some o=>
   have:=st.nw a h2 (by rw [q];exact fun z=>nomatch z)
   rw [h3] at this
   cases this
 | .dc kvs,_,⟨a,es,h1,h2,h3,h4,h5⟩=>by
  refine⟨a,es,h1, ?_,st.sh _ _ h3,h4.mono st.sg,h5⟩
  cases q:G' a with
  | none=>rfl
  | some o=>
   have:=st.nw a h2 (by rw [q];exact fun z=>nomatch z)
   rw [h3] at this
   cases this
 | .sd kvs,_,⟨a,es,h1,h2,h3,h4,h5⟩=>⟨a,es,h1,st.sg _ _ h2,st.sh _ _ h3,h4.mono st.sg,h5⟩
theorem SL.step {ρ:Rho} {σ:St} (h:SL K ad G H ρ σ) (st:Step G H G' H'):SL K ad G' H' ρ σ:=
 ⟨h.len,fun i s e=>let ⟨ov,h1,h2⟩:=h.at_ i s e;⟨ov,h1,h2.step st⟩⟩
theorem SL.sh {ρ:Rho} {σ:St} {i:Nat} {d:D} (h:SL K ad G H ρ σ) (e:ρ[i]? =some (.sh d)): ∃ v,σ[i]? =some (some v)/\Rep K ad G d v:=by
 obtain⟨ov,h1,v,rfl,h3⟩:=h.at_ i _ e
 exact⟨v,h1,h3⟩
theorem SL.ow {ρ:Rho} {σ:St} {i:Nat} {xs:List D} (h:SL K ad G H ρ σ) (e:ρ[i]? =some (.ow xs)): ∃ a vs,σ[i]? =some (some (.ref a))/\G a=none/\H a=some (.lst vs)/\aG K ad G xs vs:=by
 obtain⟨ov,h1,a,vs,rfl,h3⟩:=h.at_ i _ e
 exact⟨a,vs,h1,h3⟩
theorem SL.dc {ρ:Rho} {σ:St} {i:Nat} {kvs:List (D×D)} (h:SL K ad G H ρ σ) (e:ρ[i]? =some (.dc kvs)): ∃ a es,σ[i]? =some (some (.ref a))/\G a=none/\H a=some (dcO a es)/\DR K ad G kvs es/\KOk kvs:=by
 obtain⟨ov,h1,a,es,rfl,h3⟩:=h.at_ i _ e
 exact⟨a,es,h1,h3⟩
def RK (K:PySem.W.Frag) (ad:Ad) (G H:Hp) (r:R) (Q:VK) (E:Nat->Hp->Prop):Prop:=match r with
 | .ok d=> ∀ v G' H',Step G H G' H'->Rep K ad G' d v->Q v H'
 | .ow xs=> ∀ p vs G' H',Step G H G' H'->H p=none->G' p=none->H' p=some (.lst vs)->aG K ad G' xs vs->Q (.ref p) H'
 | .ex c=> ∀ G' H',Step G H G' H'->E c H'
 | .bad=>False
theorem RK.step {r:R} {Q:VK} {E:Nat->Hp->Prop} (h:RK K ad G H r Q E) (st:Step G H G' H'):RK K ad G' H' r Q E:=by
 cases r with
 | ok d=>exact fun v G2 H2 s2 q=>h v G2 H2 (st.trans s2) q
 | ow xs=>exact fun p vs G2 H2 s2 n m e q=>h p vs G2 H2 (st.trans s2) (st.sh.free n) m e q
 | ex c=>exact fun G2 H2 s2=>h G2 H2 (st.trans s2)
 | bad=>exact h
theorem RK.ok_now {d:D} {v:V} {Q:VK} {E:Nat->Hp->Prop} (h:RK K ad G H (.ok d) Q E) (e:Same G H) (q:Rep K ad G d v):Q v H:=h v G H (Step.refl e) q
theorem RK.ow_new {xs:List D} {vs:List V} {p:Addr} {Q:VK} {E:Nat->Hp->Prop} (h:RK K ad G H (.ow xs) Q E) (e:Same G H) (q:aG K ad G xs vs) (n:H p=none):Q (.ref p) (upd H p (.lst vs)):=
 h p vs G (upd H p (.lst vs)) (Step.own e n) n (e.free n) a9 q
theorem RK.tup_new {xs:List D} {vs:List V} {p:Addr} {Q:VK} {E:Nat->Hp->Prop} (h:RK K ad G H (.ok (.tup xs)) Q E) (e:Same G H) (q:aG K ad G xs vs) (n:H p=none):Q (.ref p) (upd H p (.tup vs)):=by
 refine h (.ref p) (upd G p (.tup vs)) (upd H p (.tup vs)) (Step.new e n) ?_
 unfold Rep
 exact⟨p,vs,rfl,SqT.of a9,q.mono (Same.upd_new (e.free n))⟩
end
noncomputable def CXe (P:Program) (w:World):CXT:=fun outer H s E e s'=>
 ∃ (ea:Addr) (cls a0:Value) (H':Hp) (B:Heap),e= .ref ea/\s'.os=s.os/\AllBare s'.gens/\Heap.FlyingW B outer ea cls a0 s'.heap/\Un (frs outer) [] H H' s.heap s'.heap/\
  HOk P w H' s'.heap/\H' ea=none/\(∀ b o,s.heap.get? b=some o->b∉frs outer-> ∃ o',B.get? b=some o')/\(∀ b o,H' b=some o-> ∃ o',B.get? b=some o')/\E cls none H'
noncomputable def xk (ad:Ad) (E:Nat->Hp->Prop):XK:=fun cls _ H'=> ∃ c,cls= .ref (ad.cls c)/\E c H'
def XP (X:Cx) (ad:Ad) (σ:St) (E:Nat->Hp->Prop):Prop:=
 ∀ (pins:List (Addr×Obj)) (H:Hp) (s:Shared) (e:Value) (s':Shared),Inv X pins σ H s->CXe X.prog X.w X.stack H s (xk ad E) e s'->X.xe e s'
noncomputable def tE (X:Cx) (ad:Ad) (f:F):TE:=fun σ H Q=> ∃ G ρ E,Same G H/\SL X.K ad G H ρ σ/\XP X ad σ E/\RK X.K ad G H (f ρ) Q E
abbrev ME (X:Cx) (ad:Ad) (e:Expr) (f:F):Prop:=PE X e (tE X ad f)
def mI (r:R):Prop:=(∃ b,r= .ok (.bl b))\/ ∃ c,r= .ex c
noncomputable def tT (X:Cx) (ad:Ad) (f:F):TT:=fun σ H Q=> ∃ G ρ E,Same G H/\SL X.K ad G H ρ σ/\XP X ad σ E/\mI (f ρ)/\RK X.K ad G H (f ρ) (fun v H'=> ∃ b,v= .bl b/\Q b H') E
abbrev MT (X:Cx) (ad:Ad) (e:Expr) (f:F):Prop:=PT X e (tT X ad f)
abbrev MW (X:Cx) (ad:Ad) (e:Expr) (f:F):Prop:=PW X e (tT X ad f)
def AK (K:PySem.W.Frag) (ad:Ad) (G H:Hp) (r:RA) (Q:List V->Hp->Prop) (E:Nat->Hp->Prop):Prop:=match r with
 | .ok ds=> ∀ vs G' H',Step G H G' H'->aG K ad G' ds vs->Q vs H'
 | .ex c=> ∀ G' H',Step G H G' H'->E c H'
 | .bad=>False
noncomputable def tA (X:Cx) (ad:Ad) (fs:List F):TA:=fun σ H Q=> ∃ G ρ E,Same G H/\SL X.K ad G H ρ σ/\XP X ad σ E/\AK X.K ad G H (args fs ρ) Q E
abbrev MA (X:Cx) (ad:Ad) (es:List Expr) (fs:List F):Prop:=PA X es (tA X ad fs)
section
variable {X:Cx} {ad:Ad} {pins:List (Addr×Obj)} {s:Shared} {σ:St} {H G:Hp} {ρ:Rho} {Q:VK} {E:Nat->Hp->Prop} {pos:Pos} {a b c:Expr} {f g h:F}
theorem cW {xs:List D} {p:Addr} {vs:List V} {G1 H1:Hp} (st:Step G H G1 H1) (n:H p=none) (m:G1 p=none) (e:H1 p=some (.lst vs)) (q:aG X.K ad G1 xs vs):
  ∃ G2,Step G H G2 H1/\Rep X.K ad G2 (.lst xs) (.ref p):=by
 refine⟨upd G1 p (.lst vs),st.share n m e, ?_⟩
 unfold Rep
 exact⟨p,vs,rfl,SqL.of a9,q.mono (Same.upd_new m)⟩
theorem ME.thn {k:D->R} (ha:ME X ad a f) (I:Inv X pins σ H s) (hG:Same G H) (hS:SL X.K ad G H ρ σ) (hx:XP X ad σ E) (hr:RK X.K ad G H ((f ρ).bind k) Q E):
  wpAny (model X.prog X.w) X.A (eval a X.env) (fun u s1=> ∃ v d G1 H1,Inv X pins σ H1 s1/\b9 v u/\Step G H G1 H1/\Rep X.K ad G1 d v/\RK X.K ad G1 H1 (k d) Q E) X.xe s:=by
 cases e:f ρ with
 | ok d=>
  rw [e] at hr
  refine L2.thn (ha pins s σ H (fun v H1=> ∃ G1,Step G H G1 H1/\Rep X.K ad G1 d v) I ⟨G,ρ,E,hG,hS,hx,by rw [e];exact fun v G1 H1 st q=>⟨G1,st,q⟩⟩) fun u s1 ⟨v,H1,I1,r1,G1,st,q⟩=> ?_
  exact⟨v,d,G1,H1,I1,r1,st,q,RK.step hr st⟩
 | ow xs=>
  rw [e] at hr
  refine L2.thn (ha pins s σ H (fun v H1=> ∃ G1,Step G H G1 H1/\Rep X.K ad G1 (.lst xs) v) I ⟨G,ρ,E,hG,hS,hx,by rw [e];exact fun p vs G1 H1 st n m e' q=>cW st n m e' q⟩) fun u s1 ⟨v,H1,I1,r1,G1,st,q⟩=> ?_
  exact⟨v, .lst xs,G1,H1,I1,r1,st,q,RK.step hr st⟩
 | ex c=>
  rw [e] at hr
  refine L2.thn (ha pins s σ H (fun v H1=>False) I ⟨G,ρ,E,hG,hS,hx,by rw [e];exact hr⟩) fun u s1 ⟨v,H1,I1,r1,q⟩=>q.elim
 | bad=>
  rw [e] at hr
  exact ay hr
theorem aY {i:Int}:Rep X.K ad G (.int i) (.int i):=by unfold Rep;rfl
theorem bP {i:Bool}:Rep X.K ad G (.bl i) (.bl i):=by unfold Rep;rfl
theorem aFu:Rep X.K ad G .non .non:=by unfold Rep;rfl
theorem aFv {i:Str}:Rep X.K ad G (.str i) (.str i):=by unfold Rep;rfl
theorem aD2 {i:Nat} {x:Str} (hN:X.N[i]? =some x) (hv:Vis X.env.scope x) (hd:(x==("__debug__":Str))=false) (hcd:(x==("__classdict__":Str))=false):ME X ad (.Name x pos) (aA i):=by
 intro pins s σ H Q I ⟨G,ρ,E,hG,hS,hx,hr⟩
 unfold aA at hr
 cases e:ρ[i]? with
 | none=>
  rw [e] at hr
  exact hr.elim
 | some sl=>
  rw [e] at hr
  cases sl with
  | no=>exact hr.elim
  | dc kvs=>exact hr.elim
  | sd kvs=>exact hr.elim
  | ow xs=>exact hr.elim
  | sh d=>
   obtain⟨v,h1,h2⟩:=hS.sh e
   exact gT hN hv hd hcd pins s σ H Q I ⟨v,h1,hr.ok_now hG h2⟩
def MLk (X:Cx) (ad:Ad) (e:Expr) (f:F):Prop:=
 ∀ (pins:List (Addr×Obj)) (s:Shared) (σ:St) (H G:Hp) (ρ:Rho) (k:D->R) (Q:VK) (E:Nat->Hp->Prop),Inv X pins σ H s->Same G H->SL X.K ad G H ρ σ->XP X ad σ E->RK X.K ad G H ((f ρ).bind k) Q E->
  wpAny (model X.prog X.w) X.A (eval e X.env) (fun u s1=> ∃ v d G1 H1,Inv X pins σ H1 s1/\b9 v u/\Step G H G1 H1/\(Rep X.K ad G1 d v\/ ∃ a vs ds,d= .lst ds/\v= .ref a/\G1 a=none/\H1 a=some (.lst vs)/\aG X.K ad G1 ds vs)/\RK X.K ad G1 H1 (k d) Q E) X.xe s
theorem ME.look (ha:ME X ad a f):MLk X ad a f:=by
 intro pins s σ H G ρ k Q E I hG hS hx hr
 exact L2.thn (ha.thn I hG hS hx hr) fun u s1 ⟨v,d,G1,H1,I1,r1,st,q,z⟩=>⟨v,d,G1,H1,I1,r1,st, .inl q,z⟩
theorem nT {k:Const} {j:Nat} {d:D} (e:kD k=some d):ME X ad (.Constant k j pos) (rK d):=by
 intro pins s σ H Q I ⟨G,ρ,E,hG,hS,hx,hr⟩
 cases k with
 | int i=>cases e;exact aIv pins s σ H Q I (hr.ok_now hG aY)
 | bool i=>cases e;exact aMk pins s σ H Q I (hr.ok_now hG bP)
 | none=>cases e;exact aIw pins s σ H Q I (hr.ok_now hG aFu)
 | str i=>cases e;exact aIx pins s σ H Q I (hr.ok_now hG aFv)
 | float _=>cases e
 | complex _ _=>cases e
 | bytes _=>cases e
 | ellipsis=>cases e
theorem xG {x:Str} {d:D} {u:Value} {v:V} (hg:L2.Gl X x) (hm:X.mg x=some u) (r:b9 v u) (q: ∀ G,Rep X.K ad G d v) (hd:(x==("__debug__":Str))=false):ME X ad (.Name x pos) (rK d):=by
 intro pins s σ H Q I ⟨G,ρ,E,hG,hS,hx,hr⟩
 exact aE5 hg hm r hd pins s σ H Q I (hr.ok_now hG (q G))
def DOp (X:Cx) (ad:Ad) (t:Value->Value->Sem Value) (r:D->D->R):Prop:=
 ∀ (pins:List (Addr×Obj)) (s:Shared) (σ:St) (H G:Hp) (x y:D) (v w:V) (u z:Value) (Q:VK) (E:Nat->Hp->Prop),Inv X pins σ H s->Same G H->Rep X.K ad G x v->Rep X.K ad G y w->b9 v u->b9 w z->
  RK X.K ad G H (r x y) Q E->wpAny (model X.prog X.w) X.A (t u z) (EP X pins σ Q) X.xe s
theorem aJ4 {t:Value->Value->Sem Value} {r:D->D->R} (ho:DOp X ad t r) (ha:ME X ad a f) (hb:ME X ad b g) (I:Inv X pins σ H s) (hG:Same G H) (hS:SL X.K ad G H ρ σ) (hx:XP X ad σ E)
  (hr:RK X.K ad G H ((f ρ).bind fun x=>(g ρ).bind fun y=>r x y) Q E):
  wpAny (model X.prog X.w) X.A (eval a X.env) (fun v s₁=>wpAny (model X.prog X.w) X.A (eval b X.env) (fun u s₂=>wpAny (model X.prog X.w) X.A (t v u) (EP X pins σ Q) X.xe s₂) X.xe s₁) X.xe s:=by
 refine L2.thn (ha.thn I hG hS hx hr) fun u s1 hz_=> ?_
 obtain⟨v,d,G1,H1,I1,r1,st1,q1,hr1⟩:=hz_
 refine L2.thn (hb.thn I1 st1.gh (hS.step st1) hx hr1) fun z s2 hz_=> ?_
 obtain⟨w,e,G2,H2,I2,r2,st2,q2,hr2⟩:=hz_
 exact ho pins s2 σ H2 G2 d e v w u z Q E I2 st2.gh (q1.mono st2.sg) q2 r1 r2 hr2
end
section
variable {X:Cx} {ad:Ad} {pins:List (Addr×Obj)} {s:Shared} {σ:St} {H G:Hp} {ρ:Rho} {Q:VK} {E:Nat->Hp->Prop} {pos:Pos} {a b c:Expr} {f g h:F}
theorem tN {n:Nat} (h:n<=LIM):n<=sizeLine:=Nat.le_trans h (by decide)
theorem rX {i:Int} (h:sml i=true): -(2 ^ 64)<i/\i<2 ^ 64:=by
 unfold sml at h
 rw [au] at h
 exact⟨of_decide_eq_true h.1,of_decide_eq_true h.2⟩
theorem nU {i:Int} (h:sml i=true):i.natAbs<2 ^ 64:=by
 obtain⟨h1,h2⟩:=rX h
 omega
theorem sub_int_bool {prog:Program} {w:World} {A:Around} {Ex:Value->Shared->Prop} {s:Shared} {i:Int} {t:Tok} {k:Bool} {Q:Value->Shared->Prop} (h:Q (.int (i - SK.b2i k) s.toks) { s with toks:=s.toks+1 }):
  wpAny (model prog w) A (binaryOp .Sub (.int i t) (.bool k)) Q Ex s:=PySem.IntBool.sub_int_bool h
theorem add_int_bool {prog:Program} {w:World} {A:Around} {Ex:Value->Shared->Prop} {s:Shared} {i:Int} {t:Tok} {k:Bool} {Q:Value->Shared->Prop} (h:Q (.int (i+SK.b2i k) s.toks) { s with toks:=s.toks+1 }):
  wpAny (model prog w) A (binaryOp .Add (.int i t) (.bool k)) Q Ex s:=PySem.add_int_bool h
theorem aFw {prog:Program} {w:World} {A:Around} {Ex:Value->Shared->Prop} {s:Shared} {t b:Addr} {ws:List Value} {Q:Value->Shared->Prop} (ht:IsTup s.heap t #[]) (hb:IsTup s.heap b ws.toArray) (h:Q (.ref b) s):
  wpAny (model prog w) A (binaryOp .Add (.ref t) (.ref b)) Q Ex s:=by
 obtain⟨⟨cls,dd,data,sl⟩,ho,hc,n,hd⟩:=id ht
 obtain⟨⟨cls2,dd2,data2,sl2⟩,ho2,hc2,n2,hd2⟩:=id hb
 simp only at hc hd hc2 hd2
 subst hc hd hc2 hd2
 exact concat_meets ⟨_,ho,rfl⟩ ⟨_,ho2,rfl⟩ noFill_tuple_add seq_tuple_add PySem.F.slot_tuple_add PySem.F.entry_tuple_add (PySem.F.args_tuple_add_2 _ _)
   (tuple_addW0 t b #[] ws.toArray n n2 dd dd2 sl sl2 rfl) ⟨ho,ho2,h⟩
theorem i9 (its:List Value) (m:Nat):List.foldl (fun x1 x2=>x1++x2) #[] (ak m its.toArray)=(ak m its).flatten.toArray:=by
 have:=pK its m []
 rw [List.nil_append] at this
 exact this
theorem aFx {t:Addr} {k:Int} {u:Tok} {xs:List V} {its:List Value} (I:Inv X pins σ H s) (ht:IsTup s.heap t its.toArray) (r:bI xs its) (h0: -1000000<k) (h1:k<1000000) (hz:xs.length * k.toNat<=sizeLine)
  (q: ∀ p,(p=t/\(ak k.toNat xs).flatten=xs->Q (.ref p) H)/\(H p=none->Q (.ref p) (upd H p (.tup (ak k.toNat xs).flatten)))):
  wpAny (model X.prog X.w) X.A (binaryOp .Mult (.ref t) (.int k u)) (EP X pins σ Q) X.xe s:=by
 obtain⟨⟨cls,dd,data,sl⟩,e,hc,n,hd⟩:=id ht
 simp only at hc hd
 subst hc hd
 have hov:(decide (k< -(2 ^ 63))||decide (k≥2 ^ 63))=false:=by
  rw [Bool.or_eq_false_iff]
  exact⟨decide_eq_false (by omega),decide_eq_false (by omega)⟩
 have hlen:its.length * k.toNat<=sizeLine:=by rw [<-r.length];exact hz
 have lrep:(ak k.toNat xs).flatten.length<=sizeLine:=by rw [rM,Nat.mul_comm];exact hz
 refine wpAny_binaryOp_repeat_ref (T:="tuple") (U:="int") (by decide) ⟨_,e,rfl⟩ (fun s'=>typeIs_int s' k u) jX F.fills_int_mul F.slot_int_rmul pO F.slot_int_index.lookup
  (call_meets F.slot_int_rmul (typeIs_int s k u) F.entry_int_rmul (F.args_int_rmul_2 _ _) (gW k u t its.toArray n "tuple" dd sl (.inr rfl))
   ⟨e,rfl,⟨_,e,rfl⟩, ?_⟩)
 by_cases c0:(its.toArray.isEmpty||k==1)=true
 ·refine call_meets F.slot_tuple_mul ⟨_,e,rfl⟩ F.entry_tuple_mul (F.args_tuple_mul_2 _ _) (rN t its.toArray n k u dd sl hov c0) ⟨e, ?_⟩
  refine⟨.ref t,H,I,rfl,(q t).1 ⟨rfl, ?_⟩⟩
  rcases(Bool.or_eq_true _ _).mp c0 with z | z
  ·have:its=[]:=by simpa using z
   have:xs=[]:=r.nil_iff.mp this
   subst this
   simp
  ·have:k=1:=by simpa using z
   subst this
   simp
 ·by_cases c1:(decide (k<=0)||its.toArray.isEmpty)=true
  ·refine call_meets F.slot_tuple_mul ⟨_,e,rfl⟩ F.entry_tuple_mul (F.args_tuple_mul_2 _ _) (rO t its.toArray n k u dd sl hov c0 c1) ⟨e, ?_⟩
   have k0:k.toNat=0:=by
    rcases(Bool.or_eq_true _ _).mp c1 with z | z
    ·have:=of_decide_eq_true z
     omega
    ·exact absurd (by rw [z];rfl) c0
   have q2:=(q s.heap.objs.size).2 (I.hok.fresh (aj _))
   rw [k0] at q2
   refine⟨.ref s.heap.objs.size,_,I.laid (t':=s.toks) (o:= .tup []) (fun b ob q=>af _ q) (aj _) ?_,rfl,q2⟩
   exact⟨bq _,[], .nil,IsTup.new _ _,⟨_,ag _ rfl,rfl⟩⟩
  ·have kp:0<k:=by
    rw [Bool.or_eq_true,not_or] at c1
    have:=c1.1
    rw [decide_eq_true_iff] at this
    omega
   have kk:(k.toNat:Int)=k:=by omega
   have hm:(its.toArray.size:Int) * k=((its.length * k.toNat:Nat):Int):=by rw [Int.natCast_mul,kk,av]
   have hs:(sizeLine:Nat)<=(2 ^ 63 - 1) / 8:=by decide
   refine call_meets F.slot_tuple_mul ⟨_,e,rfl⟩ F.entry_tuple_mul (F.args_tuple_mul_2 _ _) (rP t its.toArray n k u dd sl hov c0 c1 ?_ ?_ ?_) ⟨e, ?_⟩
   ·rw [hm]
    have:((its.length * k.toNat:Nat):Int)<=((2 ^ 63 - 1) / 8:Int):=by
     have:=Nat.le_trans hlen hs
     omega
    omega
   ·rw [hm]
    unfold Builtin.Tuple.tupleTooMany
    simp only [decide_eq_true_eq,gt_iff_lt,Int.not_lt]
    exact Int.ofNat_le.mpr hlen
   ·rw [i9,av,rM,Nat.mul_comm]
    exact hlen
   ·rw [i9]
    refine⟨.ref s.heap.objs.size,_,I.laid (t':=s.toks) (o:= .tup (ak k.toNat xs).flatten) (fun b ob q=>af _ q) (aj _) ?_,rfl,(q _).2 (I.hok.fresh (aj _))⟩
    exact⟨lrep,_,r.rep k.toNat,IsTup.new _ _,⟨_,ag _ rfl,rfl⟩⟩
theorem aFy {l b:Addr} {xs ys:List V} (I:Inv X pins σ H s) (hl:SqL X.K H l xs) (hb:SqL X.K H b ys) (hz:xs.length+ys.length<=sizeLine) (q: ∀ p,H p=none->Q (.ref p) (upd H p (.lst (xs++ys)))):
  wpAny (model X.prog X.w) X.A (binaryOp .Add (.ref l) (.ref b)) (EP X pins σ Q) X.xe s:=by
 obtain⟨its,r1,⟨⟨cls,dd,data,sl⟩,n,ho,hc,hdd,hd⟩,_⟩:=I.list hl
 obtain⟨its2,r2,⟨⟨cls2,dd2,data2,sl2⟩,n2,ho2,hc2,hdd2,hd2⟩,_⟩:=I.list hb
 simp only at hc hd hc2 hd2 hdd hdd2
 subst hc hd hc2 hd2
 have e:its.toArray++its2.toArray=(its++its2).toArray:=by simp
 refine concat_meets ⟨_,ho,rfl⟩ ⟨_,ho2,rfl⟩ noFill_list_add seq_list_add PySem.F.slot_list_add PySem.F.entry_list_add (PySem.F.args_list_add_2 _ _)
   (list_addW l b its.toArray its2.toArray n n2 dd dd2 sl sl2 (by rw [av,av, <-r1.length, <-r2.length];exact hz)) ⟨ho,ho2, ?_⟩
 rw [e]
 exact⟨.ref _,_,I.lnew (t':=s.toks) (r1.append r2) (by rw [bn];exact hz),rfl,q _ I.fresh⟩
theorem aFz {l:Addr} {k:Int} {u:Tok} {xs:List V} (I:Inv X pins σ H s) (hl:SqL X.K H l xs) (h0: -1000000<k) (h1:k<1000000) (hz:xs.length * k.toNat<=sizeLine) (q: ∀ p,H p=none->Q (.ref p) (upd H p (.lst (ak k.toNat xs).flatten))):
  wpAny (model X.prog X.w) X.A (binaryOp .Mult (.ref l) (.int k u)) (EP X pins σ Q) X.xe s:=by
 obtain⟨its,r,⟨⟨cls,dd,data,sl⟩,n,e,hc,hdd,hd⟩,_⟩:=I.list hl
 simp only at hc hd hdd
 subst hc hd
 have hlen:its.toArray.size * k.toNat<=sizeLine:=by rw [av, <-r.length];exact hz
 have hcap: ¬ its.toArray.size * k.toNat > (2 ^ 63 - 1) / 8:=by
  have:(sizeLine:Nat)<=(2 ^ 63 - 1) / 8:=by decide
  omega
 have hfit: ¬ (!Builtin.List.listFitsIndex k)=true:=by
  rw [fitsIndex_both (by omega) (by omega)]
  exact bd
 have hlong: ¬ Builtin.List.listTooLong (its.toArray.size * k.toNat)=true:=by
  rw [tG hlen]
  exact bd
 have hnew:List.foldl (fun x1 x2=>x1++x2) #[] (ak (if its.toArray.isEmpty=true then 0 else k.toNat) its.toArray)=(ak k.toNat its).flatten.toArray:=by
  rw [i9]
  cases its with
  | nil=>simp
  | cons a r'=>rw [if_neg (by simp)]
 refine wpAny_binaryOp_repeat_ref (T:="list") (U:="int") (by decide) ⟨_,e,rfl⟩ (fun s'=>typeIs_int s' k u) noFill_list_mul F.fills_int_mul F.slot_int_rmul repeat_list F.slot_int_index.lookup
  (call_meets F.slot_int_rmul (typeIs_int s k u) F.entry_int_rmul (F.args_int_rmul_2 _ _) (gW k u l its.toArray n "list" dd sl (.inl rfl))
   ⟨e,rfl,⟨_,e,rfl⟩,call_meets F.slot_list_mul ⟨_,e,rfl⟩ F.entry_list_mul (F.args_list_mul_2 _ _) (w9 l its.toArray n k u dd sl hfit hcap hlong) ⟨e, ?_⟩⟩)
 rw [hnew]
 exact⟨.ref _,_,I.lnew (t':=s.toks) (r.rep k.toNat) (by rw [rM,Nat.mul_comm];exact hz),rfl,q _ I.fresh⟩
theorem aF0 (op:Operator):DOp X ad (binaryOp op) (jN op):=by
 intro pins s σ H G x y v w u z Q E I hG rx ry ru rz hr
 cases x with
 | int i=>
  unfold Rep at rx
  subst rx
  cases y with
  | int j=>
   unfold Rep at ry
   subst ry
   cases op with
   | Add=>exact aJb pins s σ H _ _ u z Q I ru rz ⟨i,j,rfl,rfl,hr.ok_now hG aY⟩
   | Sub=>exact aJc pins s σ H _ _ u z Q I ru rz ⟨i,j,rfl,rfl,hr.ok_now hG aY⟩
   | Mult=>
    have hr':RK X.K ad G H (if sml i||sml j then R.ok (.int (i * j)) else .bad) Q E:=hr
    by_cases hc:(sml i||sml j)=true
    ·rw [if_pos hc] at hr'
     refine aJd pins s σ H _ _ u z Q I ru rz ⟨i,j,rfl,rfl, ?_,hr'.ok_now hG aY⟩
     rcases(Bool.or_eq_true _ _).mp hc with h | h
     ·exact .inl (rX h)
     ·exact .inr (rX h)
    ·rw [if_neg hc] at hr'
     exact hr'.elim
   | FloorDiv=>
    have hr':RK X.K ad G H (if 0<j/\j<1073741824 then R.ok (.int (i / j)) else .bad) Q E:=hr
    by_cases hc:0<j/\j<1073741824
    ·rw [if_pos hc] at hr'
     exact aFb pins s σ H _ _ u z Q I ru rz ⟨i,j,rfl,rfl,hc,hr'.ok_now hG aY⟩
    ·rw [if_neg hc] at hr'
     exact hr'.elim
   | Mod=>
    have hr':RK X.K ad G H (if 0<j then R.ok (.int (i % j)) else .bad) Q E:=hr
    by_cases hc:0<j
    ·rw [if_pos hc] at hr'
     exact aJe pins s σ H _ _ u z Q I ru rz ⟨i,j,rfl,rfl,hc,hr'.ok_now hG aY⟩
    ·rw [if_neg hc] at hr'
     exact hr'.elim
   | LShift=>
    have hr':RK X.K ad G H (if 0<=j/\j<=1000/\sml i=true then R.ok (.int (i * 2 ^ j.toNat)) else .bad) Q E:=hr
    by_cases hc:0<=j/\j<=1000/\sml i=true
    ·rw [if_pos hc] at hr'
     exact aJf pins s σ H _ _ u z Q I ru rz ⟨i,j,rfl,rfl,⟨hc.1,by omega,nU hc.2.2⟩,hr'.ok_now hG aY⟩
    ·rw [if_neg hc] at hr'
     exact hr'.elim
   | RShift=>
    have hr':RK X.K ad G H (if 0<=j then R.ok (.int (i / 2 ^ j.toNat)) else .bad) Q E:=hr
    by_cases hc:0<=j
    ·rw [if_pos hc] at hr'
     exact aJg pins s σ H _ _ u z Q I ru rz ⟨i,j,rfl,rfl,hc,hr'.ok_now hG aY⟩
    ·rw [if_neg hc] at hr'
     exact hr'.elim
   | BitAnd=>exact aJh pins s σ H _ _ u z Q I ru rz ⟨i,j,rfl,rfl,hr.ok_now hG aY⟩
   | BitOr=>exact aMw pins s σ H _ _ u z Q I ru rz ⟨i,j,rfl,rfl,hr.ok_now hG aY⟩
   | BitXor=>exact aJi pins s σ H _ _ u z Q I ru rz ⟨i,j,rfl,rfl,hr.ok_now hG aY⟩
   | MatMult=>exact ay hr
   | Div=>exact ay hr
   | Pow=>exact ay hr
  | bl k=>
   unfold Rep at ry
   subst ry
   obtain⟨t,rfl⟩:=ru
   cases (show z=Value.bool k from rz)
   cases op with
   | Sub=>exact sub_int_bool ⟨.int _,H,I.tok _,⟨_,rfl⟩,hr.ok_now hG aY⟩
   | Add=>exact add_int_bool ⟨.int _,H,I.tok _,⟨_,rfl⟩,hr.ok_now hG aY⟩
   | _=>exact ay hr
  | _=>cases op<;>exact ay hr
 | tup xs=>
  unfold Rep at rx
  obtain⟨p,vs,rfl,hp,rp⟩:=rx
  cases y with
  | tup ys=>
   unfold Rep at ry
   obtain⟨q,ws,rfl,hq,rq⟩:=ry
   cases op with
   | Add=>
    have hr':RK X.K ad G H (if xs.length+ys.length<=LIM then R.ok (.tup (xs++ys)) else .bad) Q E:=hr
    by_cases hc:xs.length+ys.length<=LIM
    ·rw [if_pos hc] at hr'
     have l1:=rp.length
     have l2:=rq.length
     by_cases hv:vs=[]
     ·subst hv
      cases (show u=Value.ref p from ru)
      cases (show z=Value.ref q from rz)
      obtain⟨its,r1,p1,_⟩:=I.tuple (hG.seqT hp)
      obtain⟨its2,r2,p2,_⟩:=I.tuple (hG.seqT hq)
      cases r1
      refine aFw p1 p2 ⟨.ref q,H,I,rfl,hr'.ok_now hG ?_⟩
      have:xs=[]:=by simpa using l1.symm
      subst this
      unfold Rep
      exact⟨q,ws,rfl,hq,rq⟩
     ·refine aFd pins s σ H _ _ u z Q I ru rz ⟨p,q,vs,ws,rfl,rfl,hG.seqT hp,hG.seqT hq,hv,by rw [l1,l2];exact tN hc,fun hw=> ?_,fun hw a ha=> ?_⟩
      ·subst hw
       have:ys=[]:=by simpa using l2.symm
       subst this
       refine hr'.ok_now hG ?_
       unfold Rep
       exact⟨p,vs,rfl,hp,by rw [List.append_nil];exact rp⟩
      ·exact hr'.tup_new hG (rp.append rq) ha
    ·rw [if_neg hc] at hr'
     exact hr'.elim
   | _=>exact ay hr
  | int k=>
   unfold Rep at ry
   subst ry
   cases op with
   | Mult=>
    have hr':RK X.K ad G H (if -1000000<k/\k<1000000/\xs.length * k.toNat<=LIM then R.ok (.tup (aMb xs k)) else .bad) Q E:=hr
    by_cases hc: -1000000<k/\k<1000000/\xs.length * k.toNat<=LIM
    ·rw [if_pos hc] at hr'
     cases (show u=Value.ref p from ru)
     obtain⟨t,rfl⟩:=rz
     obtain⟨its,r1,p1,_⟩:=I.tuple (hG.seqT hp)
     refine aFx I p1 r1 hc.1 hc.2.1 (by rw [rp.length];exact tN hc.2.2) fun a=>⟨fun⟨e1,e2⟩=> ?_,fun ha=> ?_⟩
     ·subst e1
      refine hr'.ok_now hG ?_
      unfold Rep
      exact⟨a,vs,rfl,hp,by rw [<-e2];exact rp.rep k.toNat⟩
     ·exact hr'.tup_new hG (rp.rep k.toNat) ha
    ·rw [if_neg hc] at hr'
     exact hr'.elim
   | _=>exact ay hr
  | _=>cases op<;>exact ay hr
 | lst xs=>
  unfold Rep at rx
  obtain⟨p,vs,rfl,hp,rp⟩:=rx
  cases y with
  | lst ys=>
   unfold Rep at ry
   obtain⟨q,ws,rfl,hq,rq⟩:=ry
   cases op with
   | Add=>
    have hr':RK X.K ad G H (if xs.length+ys.length<=LIM then R.ow (xs++ys) else .bad) Q E:=hr
    by_cases hc:xs.length+ys.length<=LIM
    ·rw [if_pos hc] at hr'
     cases (show u=Value.ref p from ru)
     cases (show z=Value.ref q from rz)
     exact aFy I (hG.seq hp) (hG.seq hq) (by rw [rp.length,rq.length];exact tN hc) fun a ha=>hr'.ow_new hG (rp.append rq) ha
    ·rw [if_neg hc] at hr'
     exact hr'.elim
   | _=>exact ay hr
  | int k=>
   unfold Rep at ry
   subst ry
   cases op with
   | Mult=>
    have hr':RK X.K ad G H (if -1000000<k/\k<1000000/\xs.length * k.toNat<=LIM then R.ow (aMb xs k) else .bad) Q E:=hr
    by_cases hc: -1000000<k/\k<1000000/\xs.length * k.toNat<=LIM
    ·rw [if_pos hc] at hr'
     cases (show u=Value.ref p from ru)
     obtain⟨t,rfl⟩:=rz
     exact aFz I (hG.seq hp) hc.1 hc.2.1 (by rw [rp.length];exact tN hc.2.2) fun a ha=>hr'.ow_new hG (rp.rep k.toNat) ha
    ·rw [if_neg hc] at hr'
     exact hr'.elim
   | _=>exact ay hr
  | _=>cases op<;>exact ay hr
 | _=>cases y<;>cases op<;>exact ay hr
theorem aJ5 {op:Operator} (ha:ME X ad a f) (hb:ME X ad b g):ME X ad (.BinOp a op b pos) (aJ op f g):=by
 intro pins s σ H Q I ⟨G,ρ,E,hG,hS,hx,hr⟩
 exact wpAny_BinOp (aJ4 (aF0 op) ha hb I hG hS hx hr)
end
section
variable {X:Cx} {ad:Ad} {pins:List (Addr×Obj)} {s:Shared} {σ:St} {H G:Hp} {ρ:Rho} {Q:VK} {E:Nat->Hp->Prop} {pos:Pos} {a b c:Expr} {f g h:F}
mutual
theorem eK (I:Inv X pins σ H s) (hG:Same G H): ∀ {d:D} {v:V} {u:Value},plain d=true->Rep X.K ad G d v->b9 v u-> ∃ as,Reads s.heap u (bJ d) as
 | .non,v,u,_,h,r=>by
  unfold Rep at h;subst h
  cases r
  unfold bJ
  exact⟨_, .none⟩
 | .bl b,v,u,_,h,r=>by
  unfold Rep at h;subst h
  cases r
  unfold bJ
  exact⟨_, .bool b⟩
 | .int i,v,u,_,h,r=>by
  unfold Rep at h;subst h
  obtain⟨t,rfl⟩:=r
  unfold bJ
  exact⟨_, .int i t⟩
 | .str x,v,u,_,h,r=>by
  unfold Rep at h;subst h
  obtain⟨t,rfl⟩:=r
  unfold bJ
  exact⟨_, .str x t⟩
 | .tup ds,v,u,p,h,r=>by
  unfold Rep at h
  obtain⟨a,vs,rfl,h2,h3⟩:=h
  cases r
  obtain⟨its,rv,⟨o,ho,hc,n,hd⟩,_⟩:=I.tuple (hG.seqT h2)
  obtain⟨as,ra⟩:=d9 I hG (by simpa [plain] using p) h3 rv
  unfold bJ
  exact⟨_, .tuple ho hc hd (by simpa using ra)⟩
 | .lst ds,v,u,p,h,r=>by
  unfold Rep at h
  obtain⟨a,vs,rfl,h2,h3⟩:=h
  cases r
  obtain⟨its,rv,⟨o,n,ho,hc,_,hd⟩,_⟩:=I.list (hG.seq h2)
  obtain⟨as,ra⟩:=d9 I hG (by simpa [plain] using p) h3 rv
  unfold bJ
  exact⟨_, .list ho hc hd (by simpa using ra)⟩
 | .exc _,_,_,p,_,_=>by simp [plain] at p
 | .fn _,_,_,p,_,_=>by simp [plain] at p
theorem d9 (I:Inv X pins σ H s) (hG:Same G H): ∀ {ds:List D} {vs:List V} {us:List Value},aH ds=true->aG X.K ad G ds vs->bI vs us-> ∃ as,ReadsAll s.heap us (aQ ds) as
 | [],vs,us,_,h,r=>by
  unfold aG at h;subst h
  cases r
  unfold aQ
  exact⟨_, .nil⟩
 | d::ds,vs,us,p,h,r=>by
  unfold aG at h
  obtain⟨v,r',rfl,h2,h3⟩:=h
  have p':plain d=true/\aH ds=true:=by simpa [aH] using p
  cases r with
  | cons r1 r2=>
   obtain⟨as,q1⟩:=eK I hG p'.1 h2 r1
   obtain⟨bs,q2⟩:=d9 I hG p'.2 h3 r2
   unfold aQ
   exact⟨_, .cons q1 q2⟩
end
theorem j6 {x y:D} (h:rQ x y=true):plain x=true/\plain y=true/\min (dep x) (dep y)<=60:=by
 unfold rQ at h
 rw [au,au] at h
 exact⟨h.1.1,h.1.2,of_decide_eq_true h.2⟩
theorem aF1 {A:Around} {x y:D} {v w:V} {u z:Value} (hu:A.units+61<cLine) (I:Inv X pins σ H s) (hG:Same G H) (h:rQ x y=true) (rx:Rep X.K ad G x v) (ry:Rep X.K ad G y w) (ru:b9 v u) (rz:b9 w z):
  SeqAt.EqAt A s u z (deq x y):=by
 obtain⟨p1,p2,p3⟩:=j6 h
 obtain⟨as,q1⟩:=eK I hG p1 rx ru
 obtain⟨bs,q2⟩:=eK I hG p2 ry rz
 rw [<-gF x y p1 p2]
 exact SeqAt.eqAt_reads (bJ x) (bJ y) A s u z as bs q1 q2 (fW p1) (fW p2) (by rw [fX,fX];omega)
theorem rY {M:Model} {A:Around} {Ex:Value->Shared->Prop} {s:Shared} {Q:Value->Shared->Prop} {v:V} {u:Value} {b:Bool} (r:b9 v u) (h:Q (.bool (decide (v= .bl b))) s):wpAny M A (compareOp .Is u (.bool b)) Q Ex s:=by
 cases v with
 | bl a=>
  cases (show u=Value.bool a from r)
  refine ae (show Q (.bool (Value.bool a==Value.bool b)) s from ?_)
  have e:(Value.bool a==Value.bool b)=decide (V.bl a=V.bl b):=by cases a<;>cases b<;>rfl
  rw [e];exact h
 | non=>cases (show u=Value.none from r);exact ae h
 | int i=>obtain⟨t,rfl⟩:=r;exact ae h
 | str i=>obtain⟨t,rfl⟩:=r;exact ae h
 | byt i=>obtain⟨t,rfl⟩:=r;exact ae h
 | flt i=>obtain⟨t,rfl⟩:=r;exact ae h
 | ref p=>cases (show u=Value.ref p from r);exact ae h
 | ty p=>cases (show u=Value.type p from r);exact ae h
theorem l9 {M:Model} {A:Around} {Ex:Value->Shared->Prop} {s:Shared} {Q:Value->Shared->Prop} {v:V} {u:Value} {b:Bool} (r:b9 v u) (h:Q (.bool (!decide (v= .bl b))) s):wpAny M A (compareOp .IsNot u (.bool b)) Q Ex s:=by
 cases v with
 | bl a=>
  cases (show u=Value.bool a from r)
  refine ae (show Q (.bool (!(Value.bool a==Value.bool b))) s from ?_)
  have e:(Value.bool a==Value.bool b)=decide (V.bl a=V.bl b):=by cases a<;>cases b<;>rfl
  rw [e];exact h
 | non=>cases (show u=Value.none from r);exact ae h
 | int i=>obtain⟨t,rfl⟩:=r;exact ae h
 | str i=>obtain⟨t,rfl⟩:=r;exact ae h
 | byt i=>obtain⟨t,rfl⟩:=r;exact ae h
 | flt i=>obtain⟨t,rfl⟩:=r;exact ae h
 | ref p=>cases (show u=Value.ref p from r);exact ae h
 | ty p=>cases (show u=Value.type p from r);exact ae h
theorem pV {x:D} {v:V} {b:Bool} (r:Rep X.K ad G x v):decide (v= .bl b)=aM5 b x:=by
 cases x with
 | bl a=>unfold Rep at r;subst r;cases a<;>cases b<;>rfl
 | non=>unfold Rep at r;subst r;rfl
 | int _=>unfold Rep at r;subst r;rfl
 | str _=>unfold Rep at r;subst r;rfl
 | tup _=>unfold Rep at r;obtain⟨p,_,rfl,_⟩:=r;rfl
 | lst _=>unfold Rep at r;obtain⟨p,_,rfl,_⟩:=r;rfl
 | exc _=>unfold Rep at r;obtain⟨p,rfl,_⟩:=r;rfl
 | fn _=>unfold Rep at r;subst r;rfl
theorem mJ {x:D} {v:V} (r:Rep X.K ad G x v):decide (v= .non)=aFi x:=by
 cases x with
 | bl a=>unfold Rep at r;subst r;rfl
 | non=>unfold Rep at r;subst r;rfl
 | int _=>unfold Rep at r;subst r;rfl
 | str _=>unfold Rep at r;subst r;rfl
 | tup _=>unfold Rep at r;obtain⟨p,_,rfl,_⟩:=r;rfl
 | lst _=>unfold Rep at r;obtain⟨p,_,rfl,_⟩:=r;rfl
 | exc _=>unfold Rep at r;obtain⟨p,rfl,_⟩:=r;rfl
 | fn _=>unfold Rep at r;subst r;rfl
theorem kT {y:D} {ys:List D} {w:V} (e:items y=some ys) (r:Rep X.K ad G y w): ∃ a vs,w= .ref a/\(SqT X.K G a vs\/SqL X.K G a vs)/\aG X.K ad G ys vs:=by
 cases y with
 | tup _=>cases e;unfold Rep at r;obtain⟨a,vs,h1,h2,h3⟩:=r;exact⟨a,vs,h1, .inl h2,h3⟩
 | lst _=>cases e;unfold Rep at r;obtain⟨a,vs,h1,h2,h3⟩:=r;exact⟨a,vs,h1, .inr h2,h3⟩
 | _=>cases e
theorem tP: ∀ {ys:List D} {vs:List V} {us:List Value},aG X.K ad G ys vs->bI vs us-> ∀ u∈us, ∃ d∈ys, ∃ v,Rep X.K ad G d v/\b9 v u
 | [],vs,us,h,r,u,hu=>by
  unfold aG at h;subst h
  cases r
  cases hu
 | d::ds,vs,us,h,r,u,hu=>by
  unfold aG at h
  obtain⟨v,r',rfl,h2,h3⟩:=h
  cases r with
  | cons r1 r2=>
   rcases aq.mp hu with rfl | hu
   ·exact⟨d, .head _,v,h2,r1⟩
   ·obtain⟨d',hd,v',q⟩:=tP h3 r2 u hu
    exact⟨d', .tail _ hd,v',q⟩
theorem tQ (p:D->Bool) (q:Value->Bool): ∀ {ys:List D} {vs:List V} {us:List Value},aG X.K ad G ys vs->bI vs us->(∀ d∈ys, ∀ v u,Rep X.K ad G d v->b9 v u->q u=p d)->us.any q=ys.any p
 | [],vs,us,h,r,_=>by
  unfold aG at h;subst h
  cases r
  rfl
 | d::ds,vs,us,h,r,k=>by
  unfold aG at h
  obtain⟨v,r',rfl,h2,h3⟩:=h
  cases r with
  | cons r1 r2=>
   rw [List.any_cons,List.any_cons,k d (.head _) v _ h2 r1,tQ p q h3 r2 fun d' hd=>k d' (.tail _ hd)]
theorem mK (p:D->Bool) (q:Value->Bool): ∀ {ys:List D} {vs:List V} {us:List Value},aG X.K ad G ys vs->bI vs us->(∀ d∈ys, ∀ v u,Rep X.K ad G d v->b9 v u->q u=p d)->us.countP q=ys.countP p
 | [],vs,us,h,r,_=>by
  unfold aG at h;subst h
  cases r
  rfl
 | d::ds,vs,us,h,r,k=>by
  unfold aG at h
  obtain⟨v,r',rfl,h2,h3⟩:=h
  cases r with
  | cons r1 r2=>
   rw [List.countP_cons,List.countP_cons,k d (.head _) v _ h2 r1,mK p q h3 r2 fun d' hd=>k d' (.tail _ hd)]
theorem pW (p:D->Bool) (q:Value->Bool): ∀ {ys:List D} {vs:List V} {us:List Value},aG X.K ad G ys vs->bI vs us->(∀ d∈ys, ∀ v u,Rep X.K ad G d v->b9 v u->q u=p d)->us.findIdx? q=ys.findIdx? p
 | [],vs,us,h,r,_=>by
  unfold aG at h;subst h
  cases r
  rfl
 | d::ds,vs,us,h,r,k=>by
  unfold aG at h
  obtain⟨v,r',rfl,h2,h3⟩:=h
  cases r with
  | cons r1 r2=>
   rw [List.findIdx?_cons,List.findIdx?_cons,k d (.head _) v _ h2 r1,pW p q h3 r2 fun d' hd=>k d' (.tail _ hd)]
open Classical in
theorem mL {x:D} {ys:List D} {v:V} {u:Value} {vs:List V} {its:List Value} (hu:X.A.units+62<cLine) (I:Inv X pins σ H s) (hG:Same G H) (h:mH x ys=true) (rx:Rep X.K ad G x v) (ru:b9 v u) (r:aG X.K ad G ys vs) (rv:bI vs its):
  ∃ e:Value->Bool,(∀ y,y∈its.toArray->SeqAt.EqAt X.A.in1 s y u (e y))/\its.toArray.any e=(ys.any fun y=>deq y x)/\its.countP e=(ys.countP fun y=>deq y x)/\its.findIdx? e=ys.findIdx? fun y=>deq y x:=by
 have ok: ∀ d∈ys,rQ d x=true:=fun d hd=>zAd h d hd
 have key: ∀ d∈ys, ∀ v' u',Rep X.K ad G d v'->b9 v' u'->(decide (∃ d' as,plain d'=true/\Reads s.heap u' (bJ d') as/\PyData.eqv (bJ d') (bJ x)=true))=deq d x:=fun d hd v' u' r1 r2=>by
  obtain⟨p1,p2,_⟩:=j6 (ok d hd)
  obtain⟨as,q1⟩:=eK I hG p1 r1 r2
  rw [<-gF d x p1 p2]
  by_cases z:PyData.eqv (bJ d) (bJ x)=true
  ·rw [z]
   exact decide_eq_true ⟨d,as,p1,q1,z⟩
  ·rw [Bool.not_eq_true] at z
   rw [z]
   refine decide_eq_false ?_
   rintro⟨d',as',p',q',z'⟩
   have:=SeqAt.Reads.unique (bJ d) (bJ d') u' as as' (fW p1) q1 q'
   rw [<-this,z] at z'
   cases z'
 refine⟨fun u'=>decide (∃ d' as,plain d'=true/\Reads s.heap u' (bJ d') as/\PyData.eqv (bJ d') (bJ x)=true),fun y hy=> ?_, ?_,mK _ _ r rv key,pW _ _ r rv key⟩
 ·obtain⟨d,hd,v',r1,r2⟩:=tP r rv y (by simpa using hy)
  have:=aF1 (A:=X.A.in1) (by show X.A.units+1+61<_;omega) I hG (ok d hd) r1 rx r2 ru
  rw [<-key d hd v' y r1 r2] at this
  exact this
 ·rw [List.any_toArray]
  exact tQ _ _ r rv key
theorem kU (op:CmpOp) (hu:X.A.units+62<cLine):DOp X ad (compareOp op) (eF op):=by
 intro pins s σ H G x y v w u z Q E I hG rx ry ru rz hr
 cases op with
 | Eq=>
  have hr':RK X.K ad G H (if rQ x y then R.ok (.bl (deq x y)) else .bad) Q E:=hr
  by_cases hc:rQ x y=true
  ·rw [if_pos hc] at hr'
   obtain⟨p1,p2,p3⟩:=j6 hc
   obtain⟨as,q1⟩:=eK I hG p1 rx ru
   obtain⟨bs,q2⟩:=eK I hG p2 ry rz
   exact SeqAt.compareEq_reads q1 q2 (fW p1) (fW p2) (by rw [fX,fX];omega) (by rw [gF x y p1 p2];exact⟨.bl _,H,I,rfl,hr'.ok_now hG bP⟩)
  ·rw [if_neg hc] at hr'
   exact hr'.elim
 | NotEq=>
  have hr':RK X.K ad G H (if rQ x y then R.ok (.bl (!deq x y)) else .bad) Q E:=hr
  by_cases hc:rQ x y=true
  ·rw [if_pos hc] at hr'
   obtain⟨p1,p2,p3⟩:=j6 hc
   obtain⟨as,q1⟩:=eK I hG p1 rx ru
   obtain⟨bs,q2⟩:=eK I hG p2 ry rz
   exact SeqAt.neOverData X.prog X.w X.A X.xe s u z (bJ x) (bJ y) as bs _ q1 q2 (fW p1) (fW p2) (by rw [fX,fX];omega) (by rw [gF x y p1 p2];exact⟨.bl _,H,I,rfl,hr'.ok_now hG bP⟩)
  ·rw [if_neg hc] at hr'
   exact hr'.elim
 | Lt=>
  cases x<;>cases y<;>try exact ay hr
  unfold Rep at rx ry;subst rx;subst ry
  exact aMx pins s σ H _ _ u z Q I ru rz ⟨_,_,rfl,rfl,hr.ok_now hG bP⟩
 | LtE=>
  cases x<;>cases y<;>try exact ay hr
  unfold Rep at rx ry;subst rx;subst ry
  exact aMy pins s σ H _ _ u z Q I ru rz ⟨_,_,rfl,rfl,hr.ok_now hG bP⟩
 | Gt=>
  cases x<;>cases y<;>try exact ay hr
  unfold Rep at rx ry;subst rx;subst ry
  exact aMz pins s σ H _ _ u z Q I ru rz ⟨_,_,rfl,rfl,hr.ok_now hG bP⟩
 | GtE=>
  cases x<;>cases y<;>try exact ay hr
  unfold Rep at rx ry;subst rx;subst ry
  exact aM0 pins s σ H _ _ u z Q I ru rz ⟨_,_,rfl,rfl,hr.ok_now hG bP⟩
 | Is=>
  cases y<;>try exact ay hr
  ·unfold Rep at ry;subst ry
   exact aJk pins s σ H _ _ u z Q I ru rz ⟨rfl,by rw [mJ rx];exact hr.ok_now hG bP⟩
  ·unfold Rep at ry;subst ry
   rename_i k
   cases (show z=Value.bool k from rz)
   exact rY ru ⟨.bl _,H,I,rfl,by rw [pV rx];exact hr.ok_now hG bP⟩
 | IsNot=>
  cases y<;>try exact ay hr
  ·unfold Rep at ry;subst ry
   exact aFc pins s σ H _ _ u z Q I ru rz ⟨rfl,by rw [mJ rx];exact hr.ok_now hG bP⟩
  ·unfold Rep at ry;subst ry
   rename_i k
   cases (show z=Value.bool k from rz)
   exact l9 ru ⟨.bl _,H,I,rfl,by rw [pV rx];exact hr.ok_now hG bP⟩
 | In=>
  have hr':RK X.K ad G H (match items y with | some ys=>if mH x ys then R.ok (.bl (ys.any fun y=>deq y x)) else .bad | none=> .bad) Q E:=hr
  cases e:items y with
  | none=>rw [e] at hr';exact hr'.elim
  | some ys=>
   rw [e] at hr'
   by_cases hc:mH x ys=true
   ·have hr2:RK X.K ad G H (if mH x ys then R.ok (.bl (ys.any fun y=>deq y x)) else .bad) Q E:=hr'
    rw [if_pos hc] at hr2
    obtain⟨p,vs,rfl,hq,rq⟩:=kT e ry
    cases (show z=Value.ref p from rz)
    rcases hq with hq | hq
    ·obtain⟨its,rv,pt,_⟩:=I.tuple (hG.seqT hq)
     obtain⟨e1,e2,e3,_⟩:=mL hu I hG hc rx ru rq rv
     exact SeqAt.in_tupleAt e1 (show s.heap.IsTuple p its.toArray from pt) e2 (by rw [e3];exact⟨.bl _,H,I,rfl,hr2.ok_now hG bP⟩)
    ·obtain⟨its,rv,pt,_⟩:=I.list (hG.seq hq)
     obtain⟨e1,e2,e3,_⟩:=mL hu I hG hc rx ru rq rv
     exact SeqAt.in_listAt e1 pt.isList e2 (by rw [e3];exact⟨.bl _,H,I,rfl,hr2.ok_now hG bP⟩)
   ·have hr2:RK X.K ad G H (if mH x ys then R.ok (.bl (ys.any fun y=>deq y x)) else .bad) Q E:=hr'
    rw [if_neg hc] at hr2
    exact hr2.elim
 | NotIn=>
  have hr':RK X.K ad G H (match items y with | some ys=>if mH x ys then R.ok (.bl (!ys.any fun y=>deq y x)) else .bad | none=> .bad) Q E:=hr
  cases e:items y with
  | none=>rw [e] at hr';exact hr'.elim
  | some ys=>
   rw [e] at hr'
   have hr2:RK X.K ad G H (if mH x ys then R.ok (.bl (!ys.any fun y=>deq y x)) else .bad) Q E:=hr'
   by_cases hc:mH x ys=true
   ·rw [if_pos hc] at hr2
    obtain⟨p,vs,rfl,hq,rq⟩:=kT e ry
    cases (show z=Value.ref p from rz)
    rcases hq with hq | hq
    ·obtain⟨its,rv,pt,_⟩:=I.tuple (hG.seqT hq)
     obtain⟨e1,e2,e3,_⟩:=mL hu I hG hc rx ru rq rv
     exact SeqAt.notIn_tupleAt e1 (show s.heap.IsTuple p its.toArray from pt) e2 (by rw [e3];exact⟨.bl _,H,I,rfl,hr2.ok_now hG bP⟩)
    ·obtain⟨its,rv,pt,_⟩:=I.list (hG.seq hq)
     obtain⟨e1,e2,e3,_⟩:=mL hu I hG hc rx ru rq rv
     exact SeqAt.notIn_listAt e1 pt.isList e2 (by rw [e3];exact⟨.bl _,H,I,rfl,hr2.ok_now hG bP⟩)
   ·rw [if_neg hc] at hr2
    exact hr2.elim
end
theorem PE.imp {X:Cx} {e:Expr} {t t':TE} (h:PE X e t) (k: ∀ σ H Q,t' σ H Q->t σ H Q):PE X e t':=fun pins s σ H Q I w=>h pins s σ H Q I (k σ H Q w)
theorem PT.imp {X:Cx} {e:Expr} {t t':TT} (h:PT X e t) (k: ∀ σ H Q,t' σ H Q->t σ H Q):PT X e t':=fun pins s σ H Q I w=>h pins s σ H Q I (k σ H Q w)
theorem PW.imp {X:Cx} {e:Expr} {t t':TT} (h:PW X e t) (k: ∀ σ H Q,t' σ H Q->t σ H Q):PW X e t':=fun wh pins s σ H Q I w=>h wh pins s σ H Q I (k σ H Q w)
theorem PS.imp {X:Cx} {e:Stmt} {t t':TS} (h:PS X e t) (k: ∀ D σ H,t' D σ H->t D σ H):PS X e t':=fun pins s σ H D I w=>h pins s σ H D I (k D σ H w)
theorem PSs.imp {X:Cx} {e:List Stmt} {t t':TS} (h:PSs X e t) (k: ∀ D σ H,t' D σ H->t D σ H):PSs X e t':=fun pins s σ H D I w=>h pins s σ H D I (k D σ H w)
theorem PA.imp {X:Cx} {es:List Expr} {t t':TA} (h:PA X es t) (k: ∀ σ H Q,t' σ H Q->t σ H Q):PA X es t':=fun p pins s σ H Q I w=>h p pins s σ H Q I (k σ H Q w)
section
variable {X:Cx} {ad:Ad} {pins:List (Addr×Obj)} {s:Shared} {σ:St} {H G:Hp} {ρ:Rho} {Q:VK} {E:Nat->Hp->Prop} {pos:Pos} {a b c:Expr} {f g h:F}
theorem nV {k:D->R} {σ:St} {H:Hp} {Q Q':VK} (hG:Same G H) (hS:SL X.K ad G H ρ σ) (hx:XP X ad σ E) (hr:RK X.K ad G H ((f ρ).bind k) Q E)
  (q: ∀ v d G1 H1,Step G H G1 H1->Rep X.K ad G1 d v->RK X.K ad G1 H1 (k d) Q E->Q' v H1):tE X ad f σ H Q':=by
 refine⟨G,ρ,E,hG,hS,hx, ?_⟩
 cases e:f ρ with
 | ok d=>
  rw [e] at hr
  exact fun v G1 H1 st r=>q v d G1 H1 st r (RK.step hr st)
 | ow xs=>
  rw [e] at hr
  intro p vs G1 H1 st n m e' r
  obtain⟨G2,st2,r2⟩:=cW (X:=X) (ad:=ad) st n m e' r
  exact q _ _ G2 H1 st2 r2 (RK.step hr st2)
 | ex c=>
  rw [e] at hr
  exact hr
 | bad=>
  rw [e] at hr
  exact hr
theorem nW (hx:XP X ad σ E) {G1 H1:Hp} (st:Step G H G1 H1) (hS:SL X.K ad G H ρ σ) {Q:VK} (hr:RK X.K ad G1 H1 (f ρ) Q E):tE X ad f σ H1 Q:=⟨G1,ρ,E,st.gh,hS.step st,hx,hr⟩
theorem aJ6 (ha:ME X ad a f):ME X ad (.UnaryOp .Not a pos) (jO f):=by
 refine PE.imp (aI3 ha) ?_
 rintro σ H Q ⟨G,ρ,E,hG,hS,hx,hr⟩
 refine nV hG hS hx hr fun v d G1 H1 st r k=> ?_
 cases d<;>try exact ay k
 unfold Rep at r;subst r
 exact⟨_,rfl,k.ok_now st.gh bP⟩
theorem aD3 (ha:ME X ad a f):ME X ad (.UnaryOp .USub a pos) (aAw f):=by
 refine PE.imp (aMu aJj ha) ?_
 rintro σ H Q ⟨G,ρ,E,hG,hS,hx,hr⟩
 refine nV hG hS hx hr fun v d G1 H1 st r k=> ?_
 cases d<;>try exact ay k
 unfold Rep at r;subst r
 exact⟨_,rfl,k.ok_now st.gh aY⟩
theorem aJ7 {σ:St} {H:Hp} {Q:VK} (h:tE X ad (gX f g) σ H Q):aI0 (tE X ad f) (tE X ad g) σ H Q:=by
 obtain⟨G,ρ,E,hG,hS,hx,hr⟩:=h
 refine nV hG hS hx hr fun v d G1 H1 st r k=> ?_
 cases d<;>try exact ay k
 rename_i b
 unfold Rep at r;subst r
 refine⟨b,rfl, ?_⟩
 cases b with
 | true=>exact aBb (nW hx st hS k)
 | false=>exact aDt (k.ok_now st.gh bP)
theorem aNe {σ:St} {H:Hp} {Q:VK} (h:tE X ad (rOr f g) σ H Q):aOk (tE X ad f) (tE X ad g) σ H Q:=by
 obtain⟨G,ρ,E,hG,hS,hx,hr⟩:=h
 refine nV hG hS hx hr fun v d G1 H1 st r k=> ?_
 cases d<;>try exact ay k
 rename_i b
 unfold Rep at r;subst r
 refine⟨b,rfl, ?_⟩
 cases b with
 | true=>exact aBb (k.ok_now st.gh bP)
 | false=>exact aDt (nW hx st hS k)
theorem aD4 {r:List Expr} (ha:ME X ad a f) (hb:ME X ad (.BoolOp .And (b::r) pos) g):ME X ad (.BoolOp .And (a::b::r) pos) (gX f g):=PE.imp (aI2 ha hb) fun _ _ _ h=>aJ7 h
theorem aJ8 {r:List Expr} (ha:ME X ad a f) (hb:ME X ad (.BoolOp .Or (b::r) pos) g):ME X ad (.BoolOp .Or (a::b::r) pos) (rOr f g):=PE.imp (aMm ha hb) fun _ _ _ h=>aNe h
theorem aD5 {op:BoolOp} (hb:ME X ad b g):ME X ad (.BoolOp op [b] pos) g:=aI1 hb
theorem aNf {σ:St} {H:Hp} {Q:Bool->Hp->Prop} (h:tT X ad f σ H Q):tE X ad f σ H fun x H1=> ∃ k,x= .bl k/\Q k H1:=by
 obtain⟨G,ρ,E,hG,hS,hx,ht,hr⟩:=h
 exact⟨G,ρ,E,hG,hS,hx,hr⟩
theorem aJ9 (ha:ME X ad a f) (he: ∀ whole,isTrue a X.env whole=(do let v<-whole;standAt a.pos;holding [v] (truthy v))):MT X ad a f:=PT.imp (aIy ha he) fun _ _ _ h=>aNf h
theorem fN {r:R} {k:D->R} (h:mI (r.bind k)):(∃ d,r= .ok d/\mI (k d))\/(∃ xs,r= .ow xs/\mI (k (.lst xs)))\/ ∃ c,r= .ex c:=by
 cases r with
 | ok d=>exact .inl ⟨d,rfl,h⟩
 | ow xs=>exact .inr (.inl ⟨xs,rfl,h⟩)
 | ex c=>exact .inr (.inr ⟨c,rfl⟩)
 | bad=>
  rcases h with ⟨_,h⟩ | ⟨_,h⟩<;>cases h
theorem bQ: ¬ mI .bad:=by
 rintro(⟨_,h⟩ | ⟨_,h⟩)<;>cases h
theorem aKa {σ:St} {H:Hp} {Q:Bool->Hp->Prop} (h:tT X ad (jO f) σ H Q):aOj (tT X ad f) σ H Q:=by
 obtain⟨G,ρ,E,hG,hS,hx,ht,hr⟩:=h
 rcases fN ht with ⟨d,e,ht⟩ | ⟨xs,e,ht⟩ | ⟨c,e⟩
 ·cases d<;>try exact(bQ ht).elim
  rename_i b
  refine⟨G,ρ,E,hG,hS,hx, .inl ⟨b,e⟩, ?_⟩
  have hr':RK X.K ad G H ((f ρ).bind fun x=>match x with | .bl b=> .ok (.bl (!b)) | _=> .bad) (fun v H'=> ∃ b,v= .bl b/\Q b H') E:=hr
  rw [e] at hr' ⊢
  intro v G1 H1 st r
  unfold Rep at r;subst r
  obtain⟨b',e',q⟩:=hr' (.bl (!b)) G1 H1 st bP
  cases e'
  exact⟨b,rfl,q⟩
 ·exact(bQ ht).elim
 ·refine⟨G,ρ,E,hG,hS,hx, .inr ⟨c,e⟩, ?_⟩
  have hr':RK X.K ad G H ((f ρ).bind fun x=>match x with | .bl b=> .ok (.bl (!b)) | _=> .bad) (fun v H'=> ∃ b,v= .bl b/\Q b H') E:=hr
  rw [e] at hr' ⊢
  exact hr'
theorem aKb (ha:MT X ad a f):MT X ad (.UnaryOp .Not a pos) (jO f):=PT.imp (aIz ha) fun _ _ _ h=>aKa h
theorem aKc {σ:St} {H:Hp} {Q:Bool->Hp->Prop} (h:tT X ad (gX f g) σ H Q):aOi (tT X ad f) (tT X ad g) σ H Q:=by
 obtain⟨G,ρ,E,hG,hS,hx,ht,hr⟩:=h
 have hr':RK X.K ad G H ((f ρ).bind fun x=>match x with | .bl true=>g ρ | .bl false=> .ok (.bl false) | _=> .bad) (fun v H'=> ∃ b,v= .bl b/\Q b H') E:=hr
 rcases fN ht with ⟨d,e,ht⟩ | ⟨xs,e,ht⟩ | ⟨c,e⟩
 ·cases d<;>try exact(bQ ht).elim
  rename_i b
  refine⟨G,ρ,E,hG,hS,hx, .inl ⟨b,e⟩, ?_⟩
  rw [e] at hr' ⊢
  intro v G1 H1 st r
  unfold Rep at r;subst r
  refine⟨b,rfl, ?_⟩
  cases b with
  | true=>exact aBb ⟨G1,ρ,E,st.gh,hS.step st,hx,ht,RK.step hr' st⟩
  | false=>
   obtain⟨b',e',q⟩:=hr' (.bl false) G1 H1 st bP
   cases e'
   exact aDt q
 ·exact(bQ ht).elim
 ·refine⟨G,ρ,E,hG,hS,hx, .inr ⟨c,e⟩, ?_⟩
  rw [e] at hr' ⊢
  exact hr'
theorem aNg {σ:St} {H:Hp} {Q:Bool->Hp->Prop} (h:tT X ad (rOr f g) σ H Q):tOr (tT X ad f) (tT X ad g) σ H Q:=by
 obtain⟨G,ρ,E,hG,hS,hx,ht,hr⟩:=h
 have hr':RK X.K ad G H ((f ρ).bind fun x=>match x with | .bl true=> .ok (.bl true) | .bl false=>g ρ | _=> .bad) (fun v H'=> ∃ b,v= .bl b/\Q b H') E:=hr
 rcases fN ht with ⟨d,e,ht⟩ | ⟨xs,e,ht⟩ | ⟨c,e⟩
 ·cases d<;>try exact(bQ ht).elim
  rename_i b
  refine⟨G,ρ,E,hG,hS,hx, .inl ⟨b,e⟩, ?_⟩
  rw [e] at hr' ⊢
  intro v G1 H1 st r
  unfold Rep at r;subst r
  refine⟨b,rfl, ?_⟩
  cases b with
  | true=>
   obtain⟨b',e',q⟩:=hr' (.bl true) G1 H1 st bP
   cases e'
   exact aBb q
  | false=>exact aDt ⟨G1,ρ,E,st.gh,hS.step st,hx,ht,RK.step hr' st⟩
 ·exact(bQ ht).elim
 ·refine⟨G,ρ,E,hG,hS,hx, .inr ⟨c,e⟩, ?_⟩
  rw [e] at hr' ⊢
  exact hr'
theorem aD6 {r:List Expr} (ha:MT X ad a f) (hb:MW X ad (.BoolOp .And (b::r) pos) g):MW X ad (.BoolOp .And (a::b::r) pos) (gX f g):=PW.imp (pw_and ha hb) fun _ _ _ h=>aKc h
theorem aKd {r:List Expr} (ha:MT X ad a f) (hb:MW X ad (.BoolOp .Or (b::r) pos) g):MW X ad (.BoolOp .Or (a::b::r) pos) (rOr f g):=PW.imp (pw_or ha hb) fun _ _ _ h=>aNg h
theorem aD7 {op:BoolOp} (hb:MT X ad b g):MW X ad (.BoolOp op [b] pos) g:=by
 cases op with
 | And=>exact pw_and1 hb
 | Or=>exact pw_or1 hb
theorem xH {op:CmpOp} {x y:D}:(∃ k,eF op x y= .ok (.bl k))\/eF op x y= .bad:=by
 cases op<;>unfold eF<;>(repeat' split)<;>first | exact .inr rfl | exact .inl ⟨_,rfl⟩
theorem aNh {op:CmpOp} {x y:D} {v w:V} {u z:Value} (hu:X.A.units+62<cLine) (I:Inv X pins σ H s) (hG:Same G H) (rx:Rep X.K ad G x v) (ry:Rep X.K ad G y w) (ru:b9 v u) (rz:b9 w z) {k:D->R}
  (hr:RK X.K ad G H ((eF op x y).bind k) Q E):wpAny (model X.prog X.w) X.A (compareOp op u z) (fun d s3=> ∃ b G' H',d= .bool b/\Step G H G' H'/\Inv X pins σ H' s3/\RK X.K ad G' H' (k (.bl b)) Q E) X.xe s:=by
 rcases xH (op:=op) (x:=x) (y:=y) with ⟨b,e⟩ | e
 ·rw [e] at hr
  refine L2.thn (kU op hu pins s σ H G x y v w u z (fun q H'=> ∃ G',Step G H G' H'/\q= .bl b) E I hG rx ry ru rz (by rw [e];exact fun q G' H' st r=>⟨G',st,by unfold Rep at r;exact r⟩)) fun d s3 ⟨q,H',I',r',G',st,e1⟩=> ?_
  subst e1
  cases r'
  exact⟨b,G',H',rfl,st,I',RK.step hr st⟩
 ·rw [e] at hr
  exact hr.elim
theorem aBg {op op':CmpOp} (hu:X.A.units+62<cLine) (ha:ME X ad a f) (hb:ME X ad b g) (hc:ME X ad c h) (hm:lastMarks [op,op'] [b,c]=false):ME X ad (.Compare a [op,op'] [b,c] pos) (gB op op' f g h):=by
 intro pins s σ H Q I ⟨G,ρ,E,hG,hS,hx,hr⟩
 refine Compare_chain (L2.thn (ha.thn I hG hS hx hr) fun v s1 ⟨x,d1,G1,H1,I1,r1,st1,q1,k1⟩=>chain_link (L2.thn (hb.thn I1 st1.gh (hS.step st1) hx k1) fun u s2 ⟨y,d2,G2,H2,I2,r2,st2,q2,k2⟩=>
  L2.thn (aNh hu I2 st2.gh (q1.mono st2.sg) q2 r1 r2 k2) fun d s3 ⟨k,G3,H3,e,st3,I3,k3⟩=> ?_)) hm
 subst e
 refine wpAny_truthy_bool ?_
 cases k with
 | false=>exact ite_ff ⟨.bl false,H3,I3,rfl,k3.ok_now st3.gh bP⟩
 | true=>
  refine ite_tt (chain_last (L2.thn (hc.thn I3 st3.gh (((hS.step st1).step st2).step st3) hx k3) fun w' s4 hz_=> ?_))
  obtain⟨z',d4,G4,H4,I4,r4,st4,q4,k4⟩:=hz_
  exact kU op' hu pins s4 σ H4 G4 d2 d4 y z' u w' Q E I4 st4.gh ((q2.mono st3.sg).mono st4.sg) q4 r2 r4 k4
theorem aBh {op op':CmpOp} (hu:X.A.units+62<cLine) (ha:ME X ad a f) (hb:ME X ad b g) (hc:ME X ad c h) (hm:lastMarks [op,op'] [b,c]=false):MT X ad (.Compare a [op,op'] [b,c] pos) (gB op op' f g h):=by
 intro pins s σ H Q I ⟨G,ρ,E,hG,hS,hx,ht,hr⟩
 refine isTrue_chain (L2.thn (ha.thn I hG hS hx hr) fun v s1 ⟨x,d1,G1,H1,I1,r1,st1,q1,k1⟩=>test_link (L2.thn (hb.thn I1 st1.gh (hS.step st1) hx k1) fun u s2 ⟨y,d2,G2,H2,I2,r2,st2,q2,k2⟩=>
  L2.thn (aNh hu I2 st2.gh (q1.mono st2.sg) q2 r1 r2 k2) fun d s3 ⟨k,G3,H3,e,st3,I3,k3⟩=> ?_)) hm
 subst e
 refine wpAny_truthy_bool ?_
 cases k with
 | false=>
  obtain⟨k',e',q'⟩:=k3.ok_now (v:= .bl false) st3.gh bP
  cases e'
  exact ite_ff ⟨H3,I3,q'⟩
 | true=>
  refine ite_tt (test_last (L2.thn (hc.thn I3 st3.gh (((hS.step st1).step st2).step st3) hx k3) fun w' s4 hz_=> ?_))
  obtain⟨z',d4,G4,H4,I4,r4,st4,q4,k4⟩:=hz_
  refine L2.thn (kU op' hu pins s4 σ H4 G4 d2 d4 y z' u w' _ E I4 st4.gh ((q2.mono st3.sg).mono st4.sg) q4 r2 r4 k4) fun d' s5 hz_=> ?_
  obtain⟨z2,H5,I5,r5,k2,e2,q5⟩:=hz_
  subst e2
  cases r5
  exact wpAny_truthy_bool ⟨H5,I5,q5⟩
theorem aBi (hc:MT X ad c h) (ha:ME X ad a f) (hb:ME X ad b g):ME X ad (.IfExp c a b pos) (rIf h f g):=by
 refine PE.imp (aA1 hc ha hb) ?_
 rintro σ H Q ⟨G,ρ,E,hG,hS,hx,hr⟩
 have hr':RK X.K ad G H ((h ρ).bind fun x=>match x with | .bl true=>f ρ | .bl false=>g ρ | _=> .bad) Q E:=hr
 cases e:h ρ with
 | ok d=>
  rw [e] at hr'
  cases d<;>try exact hr'.elim
  rename_i k
  refine⟨G,ρ,E,hG,hS,hx, .inl ⟨k,e⟩, ?_⟩
  rw [e]
  intro v G1 H1 st r
  unfold Rep at r;subst r
  refine⟨k,rfl, ?_⟩
  cases k with
  | true=>exact aBb (nW hx st hS (RK.step hr' st))
  | false=>exact aDt (nW hx st hS (RK.step hr' st))
 | ow xs=>rw [e] at hr';exact hr'.elim
 | ex k=>
  rw [e] at hr'
  exact⟨G,ρ,E,hG,hS,hx, .inr ⟨k,e⟩,by rw [e];exact hr'⟩
 | bad=>rw [e] at hr';exact hr'.elim
theorem aD8:MA X ad [] []:=PA.imp gA fun σ H Q ⟨G,ρ,E,hG,hS,hx,hr⟩=>hr [] G H (Step.refl hG) aG.nil
theorem rZ {es:List Expr} {fs:List F} (ha:ME X ad a f) (hr:MA X ad es fs) (hs:starEach (a::es) X.env=(false,eval a X.env)::starEach es X.env):MA X ad (a::es) (f::fs):=by
 refine PA.imp (dR ha hr hs) ?_
 rintro σ H Q ⟨G,ρ,E,hG,hS,hx,hr⟩
 have main: ∀ d,AK X.K ad G H ((args fs ρ).cons d) Q E-> ∀ v G1 H1,Step G H G1 H1->Rep X.K ad G1 d v->tA X ad fs σ H1 fun xs H2=>Q (v::xs) H2:=fun d hk v G1 H1 st r=>by
  refine⟨G1,ρ,E,st.gh,hS.step st,hx, ?_⟩
  cases e:args fs ρ with
  | ok ds=>rw [e] at hk;exact fun vs G2 H2 st2 r2=>hk (v::vs) G2 H2 (st.trans st2) (aG.cons (r.mono st2.sg) r2)
  | ex c=>rw [e] at hk;exact fun G2 H2 st2=>hk G2 H2 (st.trans st2)
  | bad=>rw [e] at hk;exact hk
 refine⟨G,ρ,E,hG,hS,hx, ?_⟩
 unfold args at hr
 cases e:f ρ with
 | ok d=>rw [e] at hr;exact fun v G1 H1 st r=>main d hr v G1 H1 st r
 | ow xs=>
  rw [e] at hr
  intro p vs G1 H1 st n m e' r
  obtain⟨G2,st2,r2⟩:=cW (X:=X) (ad:=ad) st n m e' r
  exact main _ hr _ G2 H1 st2 r2
 | ex c=>rw [e] at hr;exact hr
 | bad=>rw [e] at hr;exact hr
theorem nY {fs:List F} {ρ:Rho} {ds:List D} (h:args fs ρ= .ok ds):ds.length=fs.length:=by
 induction fs generalizing ds with
 | nil=>cases h;rfl
 | cons f fs ih=>
  unfold args at h
  cases e:f ρ with
  | ok d=>
   rw [e] at h
   cases e2:args fs ρ with
   | ok r=>rw [e2] at h;cases h;simp [ih e2]
   | ex c=>rw [e2] at h;cases h
   | bad=>rw [e2] at h;cases h
  | ow d=>
   rw [e] at h
   cases e2:args fs ρ with
   | ok r=>rw [e2] at h;cases h;simp [ih e2]
   | ex c=>rw [e2] at h;cases h
   | bad=>rw [e2] at h;cases h
  | ex c=>rw [e] at h;cases h
  | bad=>rw [e] at h;cases h
theorem xI {fs:List F} {k:List D->R} {σ:St} {H:Hp} {Q:VK} {Q':List V->Hp->Prop} (hG:Same G H) (hS:SL X.K ad G H ρ σ) (hx:XP X ad σ E) (hr:RK X.K ad G H (o8 fs ρ k) Q E)
  (q: ∀ vs ds G1 H1,Step G H G1 H1->aG X.K ad G1 ds vs->ds.length=fs.length->RK X.K ad G1 H1 (k ds) Q E->Q' vs H1):tA X ad fs σ H Q':=by
 refine⟨G,ρ,E,hG,hS,hx, ?_⟩
 unfold o8 at hr
 cases e:args fs ρ with
 | ok ds=>rw [e] at hr;exact fun vs G1 H1 st r=>q vs ds G1 H1 st r (nY e) (RK.step hr st)
 | ex c=>rw [e] at hr;exact hr
 | bad=>rw [e] at hr;exact hr
theorem aKe {es:List Expr} {fs:List F} {j:Nat} (ha:MA X ad es fs) (hl:fs.length<=1000):ME X ad (.Tuple es j pos) (eG fs):=by
 refine PE.imp (aJo ha) ?_
 rintro σ H Q ⟨G,ρ,E,hG,hS,hx,hr⟩
 refine⟨G,ρ,E,hG,hS,hx, ?_⟩
 have hr':RK X.K ad G H ((args fs ρ).then fun xs=> .ok (.tup xs)) Q E:=hr
 cases e:args fs ρ with
 | ok ds=>
  rw [e] at hr'
  intro vs G1 H1 st r
  refine⟨?_,fun p hp=>(RK.step hr' st).tup_new st.gh r hp⟩
  have:=r.length
  rw [this,nY e]
  exact Nat.le_trans hl (by decide)
 | ex c=>rw [e] at hr';exact hr'
 | bad=>rw [e] at hr';exact hr'
theorem aKf {es:List Expr} {fs:List F} (ha:MA X ad es fs) (hl:fs.length<=1000):ME X ad (.List es pos) (cM fs):=by
 refine PE.imp (aJp ha) ?_
 rintro σ H Q ⟨G,ρ,E,hG,hS,hx,hr⟩
 refine⟨G,ρ,E,hG,hS,hx, ?_⟩
 have hr':RK X.K ad G H ((args fs ρ).then fun xs=> .ow xs) Q E:=hr
 cases e:args fs ρ with
 | ok ds=>
  rw [e] at hr'
  intro vs G1 H1 st r
  refine⟨?_,fun p hp=>(RK.step hr' st).ow_new st.gh r hp⟩
  have:=r.length
  rw [this,nY e]
  exact Nat.le_trans hl (by decide)
 | ex c=>rw [e] at hr';exact hr'
 | bad=>rw [e] at hr';exact hr'
def Seq (X:Cx) (ad:Ad) (G H:Hp) (x:D) (v:V):Prop:=Rep X.K ad G x v\/ ∃ a vs ds,x= .lst ds/\v= .ref a/\G a=none/\H a=some (.lst vs)/\aG X.K ad G ds vs
theorem Seq.step {G1 H1:Hp} {x:D} {v:V} (q:Seq X ad G H x v) (st:Step G H G1 H1):Seq X ad G1 H1 x v:=by
 rcases q with q | ⟨a,vs,ds,e1,e2,h1,h2,h3⟩
 ·exact .inl (q.mono st.sg)
 ·refine .inr ⟨a,vs,ds,e1,e2, ?_,st.sh _ _ h2,h3.mono st.sg⟩
  cases z:G1 a with
  | none=>rfl
  | some o=>
   have:=st.nw a h1 (by rw [z];exact fun z=>nomatch z)
   rw [h2] at this
   cases this
theorem Seq.items {x:D} {v:V} {ds:List D} (q:Seq X ad G H x v) (hG:Same G H) (e:items x=some ds): ∃ a vs,v= .ref a/\(x= .tup ds/\SqT X.K H a vs\/x= .lst ds/\SqL X.K H a vs)/\aG X.K ad G ds vs:=by
 rcases q with q | ⟨a,vs,ds',e1,e2,h1,h2,h3⟩
 ·cases x with
  | tup _=>cases e;unfold Rep at q;obtain⟨a,vs,h1,h2,h3⟩:=q;exact⟨a,vs,h1, .inl ⟨rfl,hG.seqT h2⟩,h3⟩
  | lst _=>cases e;unfold Rep at q;obtain⟨a,vs,h1,h2,h3⟩:=q;exact⟨a,vs,h1, .inr ⟨rfl,hG.seq h2⟩,h3⟩
  | _=>cases e
 ·subst e1
  cases e
  exact⟨a,vs,e2, .inr ⟨rfl,SqL.of h2⟩,h3⟩
theorem aD9 (n:Nat) (i:Int):ixD n i=L2.ixN n i:=rfl
theorem aNi (ha:MLk X ad a f) (hb:ME X ad b g) (hs:wY b):ME X ad (.Subscript a b pos) (rIx f g):=by
 intro pins s σ H Q I ⟨G,ρ,E,hG,hS,hx,hr⟩
 refine Subscript_ (L2.thn (ha pins s σ H G ρ _ Q E I hG hS hx hr) fun v s1 hz_=> ?_)
 obtain⟨x,d1,G1,H1,I1,r1,st1,q1,k1⟩:=hz_
 refine L2.thn (hb.thn I1 st1.gh (hS.step st1) hx k1) fun u s2 hz_=> ?_
 obtain⟨y,d2,G2,H2,I2,r2,st2,q2,k2⟩:=hz_
 have q1':Seq X ad G2 H2 d1 x:=Seq.step (X:=X) (ad:=ad) q1 st2
 unfold dIx at k2
 cases e:items d1 with
 | none=>rw [e] at k2;exact k2.elim
 | some ds=>
  rw [e] at k2
  cases d2<;>try exact k2.elim
  rename_i i
  unfold Rep at q2;subst q2
  obtain⟨p,vs,rfl,hq,rq⟩:=q1'.items st2.gh e
  have hr2:RK X.K ad G2 H2 (match(ixD ds.length i).bind fun j=>ds[j]? with | some d=> .ok d | none=> .bad) Q E:=k2
  cases e3:(ixD ds.length i).bind fun j=>ds[j]? with
  | none=>rw [e3] at hr2;exact hr2.elim
  | some d=>
   rw [e3] at hr2
   obtain⟨j,e4,e5⟩:=zBd e3
   obtain⟨w,e6,r6⟩:=rq.get e5
   have hat:atI vs i=some w:=by
    unfold atI
    rw [rq.length, <-aD9,e4]
    exact e6
   rcases hq with ⟨_,hq⟩ | ⟨_,hq⟩
   ·exact aJs a b pins s2 σ H2 _ _ v u Q I2 r1 r2 ⟨p,vs,i,w,rfl,rfl,hq,hat,hr2.ok_now st2.gh r6⟩ (hs _ _)
   ·exact aFe a b pins s2 σ H2 _ _ v u Q I2 r1 r2 ⟨p,vs,i,w,rfl,rfl,hq,hat,hr2.ok_now st2.gh r6⟩ (hs _ _)
theorem hU {prog:Program} {w:World} {A:Around} {Ex:Value->Shared->Prop} {s:Shared} {t sl:Addr} {items:Array Value} {vl vu:Value} {lo hi:Option Int} {Q:Value->Shared->Prop} (ht:IsTup s.heap t items) (hs:s.heap.IsSliceOf sl vl vu .none)
  (pl:IsPart vl lo) (pu:IsPart vu hi) (hw:HT.sIx items.size 0 lo=0/\HT.sIx items.size items.size hi=items.size) (h:Q (.ref t) s) (hsz:items.size<=sizeLine):wpAny (model prog w) A (getItem (.ref t) (.ref sl)) Q Ex s:=by
 obtain⟨os,hos,hcs,hds⟩:=id hs
 have ts:s.TypeIs (.ref sl) "slice":=⟨os,hos,hcs⟩
 unfold getItem
 try with_reducible refine wpAny_holding ?_
 first | refine aa (ae ?_) | skip
 refine aa (wpAny_sequenceKey ht.typeIs (by decide) ?_)
 refine aa (wpAny_callSpecial?_slot (name:=Str.ofString "__getitem__") ht.typeIs PyProof.Rows.slot_tuple_getitem
  (wpAny_call_entry PyProof.Rows.slot_tuple_getitem ht.typeIs entry_tuple_getitem ?_ (args_tuple_getitem _ _)))
 show wpAny _ _ (Builtin.Tuple.tupleItemsOf (.ref t) >>= _) _ _ s
 refine aa (tupleItemsOf_ ht ?_)
 refine aa (wpAny_typeOf ts ?_)
 rw [if_pos (by decide)]
 refine aa (HT.sliceApplied_gen hs pl pu ?_)
 have yes:(((HT.sIx items.size 0 lo:Nat):Int)==0&&(1:Int)==1&&(HT.sIx items.size items.size hi - HT.sIx items.size 0 lo)==items.size)=true:=by
  rw [hw.1,hw.2]
  simp
 show wpAny _ _ (if(((HT.sIx items.size 0 lo:Nat):Int)==0&&(1:Int)==1&&(HT.sIx items.size items.size hi - HT.sIx items.size 0 lo)==items.size)=true then _ else _) _ _ s
 rw [if_pos yes]
 unfold Builtin.Tuple.tupleIsExact
 refine aa (m:=(do let z<-typeOf (.ref t);return z== .type "tuple")) (aa (wpAny_typeOf ht.typeIs (ae ?_)))
 rw [if_pos (by decide)]
 first
  | exact aa (wpAny_rule (aa (ae (ae ⟨_,rfl,ae h⟩))))
  | exact aa (wpAny_rule (ae ⟨_,rfl,ae h⟩))
  | exact aa (aa (wpAny_rule (ae (ae ⟨_,rfl,ae h⟩))))
  | skip
theorem tR: ∀ {ds:List D} {vs:List V} (lo hi:Option Int),aG X.K ad G ds vs->aG X.K ad G (vO ds lo hi) (tF vs lo hi):=by
 intro ds vs lo hi r
 unfold vO tF
 rw [r.length]
 exact(r.drop _).take _
theorem aKg:SlR X (fun x lo hi H Q=> ∃ a vs,x= .ref a/\((SqT X.K H a vs/\(HT.sIx vs.length 0 lo=0/\HT.sIx vs.length vs.length hi=vs.length->Q (.ref a) H)/\ ∀ p,H p=none->Q (.ref p) (upd H p (.tup (tF vs lo hi))))\/
  (SqL X.K H a vs/\ ∀ p,H p=none->Q (.ref p) (upd H p (.lst (tF vs lo hi)))))):=by
 intro pins s σ H x v vl vu lo hi sl Q I rx hs pl pu q
 obtain⟨a,vs,rfl,⟨hq,q1,q2⟩ | ⟨hq,q⟩⟩:=q
 ·by_cases hw:HT.sIx vs.length 0 lo=0/\HT.sIx vs.length vs.length hi=vs.length
  ·cases rx
   obtain⟨its,r,ht,hz⟩:=I.tuple hq
   have hlen:its.toArray.size=vs.length:=by rw [av];exact r.length.symm
   refine⟨"tuple",_,PyProof.Rows.slot_tuple_getitem.lookup,ht.typeIs, ?_⟩
   refine hU ht hs pl pu (by rw [hlen];exact hw) ⟨.ref a,H,I,rfl,q1 hw⟩ (by rw [hlen];exact hz)
  ·exact aJr pins s σ H _ v vl vu lo hi sl Q I rx hs pl pu ⟨a,vs,rfl,hq,hw,q2⟩
 ·exact aFf pins s σ H _ v vl vu lo hi sl Q I rx hs pl pu ⟨a,vs,rfl,hq,q⟩
theorem tU {x:D} {v:V} {lo hi:Option Int} (q:Seq X ad G H x v) (hG:Same G H) (hr:RK X.K ad G H (aBc x lo hi) Q E):
  ∃ a vs,v= .ref a/\((SqT X.K H a vs/\(HT.sIx vs.length 0 lo=0/\HT.sIx vs.length vs.length hi=vs.length->Q (.ref a) H)/\ ∀ p,H p=none->Q (.ref p) (upd H p (.tup (tF vs lo hi))))\/(SqL X.K H a vs/\ ∀ p,H p=none->Q (.ref p) (upd H p (.lst (tF vs lo hi))))):=by
 cases x with
 | tup ds=>
  rcases q with q | ⟨_,_,_,z,_⟩
  ·unfold Rep at q
   obtain⟨a,vs,rfl,hq,rq⟩:=q
   refine⟨a,vs,rfl, .inl ⟨hG.seqT hq,fun e=> ?_,fun p hp=>RK.tup_new (xs:=vO ds lo hi) hr hG (tR lo hi rq) hp⟩⟩
   refine RK.ok_now (d:= .tup (vO ds lo hi)) hr hG ?_
   have e':vO ds lo hi=ds:=by
    rw [rq.length] at e
    have e1:nQ ds.length 0 lo=0:=e.1
    have e2:nQ ds.length ds.length hi=ds.length:=e.2
    unfold vO
    rw [e1,e2]
    simp
   rw [e']
   unfold Rep
   exact⟨a,vs,rfl,hq,rq⟩
  ·cases z
 | lst ds=>
  obtain⟨a,vs,rfl,hq,rq⟩:=q.items hG (rfl:items (.lst ds)=some ds)
  rcases hq with ⟨z,_⟩ | ⟨_,hq⟩
  ·cases z
  ·exact⟨a,vs,rfl, .inr ⟨hq,fun p hp=>RK.ow_new (xs:=vO ds lo hi) hr hG (tR lo hi rq) hp⟩⟩
 | _=>exact ay hr
theorem aKh {l u:Option Expr} {fl fu:Option F} {p2:Pos} (ha:MLk X ad a f) (hl:match l,fl with | none,none=>True | some e,some k=>ME X ad e k | _,_=>False) (hu:match u,fu with | none,none=>True | some e,some k=>ME X ad e k | _,_=>False):
  ME X ad (.Subscript a (.Slice l u none p2) pos) (gS f fl fu):=by
 intro pins s σ H Q I ⟨G,ρ,E,hG,hS,hx,hr⟩
 -- the value first
 have key: ∀ (k:D->R),RK X.K ad G H ((f ρ).bind k) Q E->(∀ (pins:List (Addr×Obj)) (s1:Shared) (x:V) (d:D) (G1 H1:Hp),Inv X pins σ H1 s1->Step G H G1 H1->Seq X ad G1 H1 d x->RK X.K ad G1 H1 (k d) Q E->
   wpAny (model X.prog X.w) X.A (evalPart l X.env) (fun vl s2=>wpAny (model X.prog X.w) X.A (evalPart u X.env) (fun vu s3=> ∃ lo hi H3,Inv X pins σ H3 s3/\IsPart vl lo/\IsPart vu hi/\
    ∃ a vs,x= .ref a/\((SqT X.K H3 a vs/\(HT.sIx vs.length 0 lo=0/\HT.sIx vs.length vs.length hi=vs.length->Q (.ref a) H3)/\ ∀ p,H3 p=none->Q (.ref p) (upd H3 p (.tup (tF vs lo hi))))\/(SqL X.K H3 a vs/\ ∀ p,H3 p=none->Q (.ref p) (upd H3 p (.lst (tF vs lo hi)))))) X.xe s2) X.xe s1)->
   wpAny (model X.prog X.w) X.A (eval (.Subscript a (.Slice l u none p2) pos) X.env) (EP X pins σ Q) X.xe s:=fun k hk go=>by
  refine Subscript_ (L2.thn (ha pins s σ H G ρ k Q E I hG hS hx hk) fun v s1 hz_=> ?_)
  obtain⟨x,d1,G1,H1,I1,r1,st1,q1,k1⟩:=hz_
  refine wpAny_Slice (L2.thn (go pins s1 x d1 G1 H1 I1 st1 q1 k1) fun vl s2 h2=>L2.thn h2 fun vu s3 hz_=> ?_)
  obtain⟨lo,hi,H3,I3,pl,pu,q3⟩:=hz_
  rw [evalPart_none]
  refine ae ?_
  have I4:Inv X pins σ H3 { s3 with heap:=s3.heap.push { cls:= .type "slice",data:= .fields #[vl,vu, .none] } }:=I3.kept (t':=s3.toks) fun b ob q=>af _ q
  obtain⟨T,id,hT,ht,hg⟩:=aKg pins { s3 with heap:=s3.heap.push { cls:= .type "slice",data:= .fields #[vl,vu, .none] } } σ H3 x v vl vu lo hi s3.heap.objs.size Q I4 r1 (Heap.IsSliceOf.new ..) pl pu q3
  show wpAny (model X.prog X.w) X.A (subscriptTail a (.Slice l u none p2) v (.ref s3.heap.objs.size)) (EP X pins σ Q) X.xe { s3 with heap:=s3.heap.push { cls:= .type "slice",data:= .fields #[vl,vu, .none] } }
  exact tail_any (ops:=[.ref s3.heap.objs.size,v]) ht hT hg (by with_unfolding_all rfl)
 unfold gS at hr
 refine key _ hr fun pins s1 x d G1 H1 I1 st1 q1 k1=> ?_
 cases l with
 | none=>
  cases fl with
  | some _=>exact hl.elim
  | none=>
   rw [evalPart_none]
   refine ae ?_
   cases u with
   | none=>
    cases fu with
    | some _=>exact hu.elim
    | none=>
     rw [evalPart_none]
     exact ae ⟨none,none,H1,I1, .none, .none,tU q1 st1.gh k1⟩
   | some e=>
    cases fu with
    | none=>exact hu.elim
    | some k=>
     rw [evalPart_some]
     refine L2.thn (ME.thn hu I1 st1.gh (hS.step st1) hx k1) fun vu s2 hz_=> ?_
     obtain⟨y,d2,G2,H2,I2,r2,st2,q2,k2⟩:=hz_
     cases d2<;>try exact ay k2
     rename_i j
     unfold Rep at q2;subst q2
     obtain⟨t,rfl⟩:=r2
     exact⟨none,some j,H2,I2, .none, .int j t,tU (Seq.step q1 st2) st2.gh k2⟩
 | some e=>
  cases fl with
  | none=>exact hl.elim
  | some k=>
   cases u with
   | none=>
    cases fu with
    | some _=>exact hu.elim
    | none=>
     rw [evalPart_some]
     refine L2.thn (ME.thn hl I1 st1.gh (hS.step st1) hx k1) fun vu s2 hz_=> ?_
     obtain⟨y,d2,G2,H2,I2,r2,st2,q2,k2⟩:=hz_
     cases d2<;>try exact ay k2
     rename_i j
     unfold Rep at q2;subst q2
     obtain⟨t,rfl⟩:=r2
     rw [evalPart_none]
     exact ae ⟨some j,none,H2,I2, .int j t, .none,tU (Seq.step q1 st2) st2.gh k2⟩
   | some e'=>
    cases fu with
    | none=>exact hu.elim
    | some k'=>
     rw [evalPart_some]
     refine L2.thn (ME.thn hl I1 st1.gh (hS.step st1) hx k1) fun vu s2 hz_=> ?_
     obtain⟨y,d2,G2,H2,I2,r2,st2,q2,k2⟩:=hz_
     cases d2<;>try exact ay k2
     rename_i j
     unfold Rep at q2;subst q2
     obtain⟨t,rfl⟩:=r2
     rw [evalPart_some]
     refine L2.thn (ME.thn hu I2 st2.gh ((hS.step st1).step st2) hx k2) fun vu s3 hz_=> ?_
     obtain⟨y3,d3,G3,H3,I3,r3,st3,q3,k3⟩:=hz_
     cases d3<;>try exact ay k3
     rename_i j'
     unfold Rep at q3;subst q3
     obtain⟨t',rfl⟩:=r3
     exact⟨some j,some j',H3,I3, .int j t, .int j' t',tU (Seq.step (Seq.step q1 st2) st3) st3.gh k3⟩
end
section
variable {X:Cx} {ad:Ad} {pins:List (Addr×Obj)} {s:Shared} {σ:St} {H G:Hp} {ρ:Rho} {Q:VK} {E:Nat->Hp->Prop} {pos p:Pos} {a b c:Expr} {f g h:F}
theorem RK.impE {K:PySem.W.Frag} {r:R} {E E':Nat->Hp->Prop} (h:RK K ad G H r Q E) (k: ∀ c H',E c H'->E' c H'):RK K ad G H r Q E':=by
 cases r with
 | ok d=>exact h
 | ow xs=>exact h
 | ex c=>exact fun G' H' st=>k c H' (h G' H' st)
 | bad=>exact h
def LK (X:Cx) (ad:Ad) (G H:Hp) (r:R) (Q:VK) (E:Nat->Hp->Prop):Prop:=match r with
 | .ok d=> ∀ v G' H',Step G H G' H'->Seq X ad G' H' d v->Q v H'
 | .ow xs=> ∀ p vs G' H',Step G H G' H'->H p=none->G' p=none->H' p=some (.lst vs)->aG X.K ad G' xs vs->Q (.ref p) H'
 | .ex c=> ∀ G' H',Step G H G' H'->E c H'
 | .bad=>False
noncomputable def tL (X:Cx) (ad:Ad) (f:F):TE:=fun σ H Q=> ∃ G ρ E,Same G H/\SL X.K ad G H ρ σ/\XP X ad σ E/\LK X ad G H (f ρ) Q E
abbrev ML (X:Cx) (ad:Ad) (e:Expr) (f:F):Prop:=PE X e (tL X ad f)
theorem LK.rk {r:R} (h:LK X ad G H r Q E):RK X.K ad G H r Q E:=by
 cases r with
 | ok d=>exact fun v G' H' st q=>h v G' H' st (.inl q)
 | ow xs=>exact h
 | ex c=>exact h
 | bad=>exact h
theorem ME.ml (ha:ME X ad a f):ML X ad a f:=PE.imp ha fun σ H Q ⟨G,ρ,E,hG,hS,hx,hr⟩=>⟨G,ρ,E,hG,hS,hx,hr.rk⟩
theorem aF2 {i:Nat} {x:Str} (hN:X.N[i]? =some x) (hv:Vis X.env.scope x) (hd:(x==("__debug__":Str))=false) (hcd:(x==("__classdict__":Str))=false):ML X ad (.Name x pos) (aC i):=by
 intro pins s σ H Q I ⟨G,ρ,E,hG,hS,hx,hr⟩
 unfold aC at hr
 cases e:ρ[i]? with
 | none=>
  rw [e] at hr
  exact hr.elim
 | some sl=>
  rw [e] at hr
  cases sl with
  | no=>exact hr.elim
  | dc kvs=>exact hr.elim
  | sd kvs=>exact hr.elim
  | ow xs=>
   obtain⟨p,vs,h1,h2,h3,h4⟩:=hS.ow e
   exact gT hN hv hd hcd pins s σ H Q I ⟨.ref p,h1,hr (.ref p) G H (Step.refl hG) (.inr ⟨p,vs,xs,rfl,rfl,h2,h3,h4⟩)⟩
  | sh d=>
   obtain⟨w,h1,h2⟩:=hS.sh e
   exact gT hN hv hd hcd pins s σ H Q I ⟨w,h1,hr w G H (Step.refl hG) (.inl h2)⟩
theorem ML.lk (ha:ML X ad a f):MLk X ad a f:=by
 intro pins s σ H G ρ k Q E I hG hS hx hr
 cases e:f ρ with
 | ok d=>
  rw [e] at hr
  refine L2.thn (ha pins s σ H (fun v H1=> ∃ G1,Step G H G1 H1/\Seq X ad G1 H1 d v) I ⟨G,ρ,E,hG,hS,hx,by rw [e];exact fun v G1 H1 st q=>⟨G1,st,q⟩⟩) fun u s1 ⟨v,H1,I1,r1,G1,st,q⟩=> ?_
  exact⟨v,d,G1,H1,I1,r1,st,q,RK.step hr st⟩
 | ow xs=>
  rw [e] at hr
  refine L2.thn (ha pins s σ H (fun v H1=> ∃ G1,Step G H G1 H1/\Rep X.K ad G1 (.lst xs) v) I ⟨G,ρ,E,hG,hS,hx,by rw [e];exact fun p vs G1 H1 st n m e' q=>cW st n m e' q⟩) fun u s1 ⟨v,H1,I1,r1,G1,st,q⟩=> ?_
  exact⟨v, .lst xs,G1,H1,I1,r1,st, .inl q,RK.step hr st⟩
 | ex c=>
  rw [e] at hr
  refine L2.thn (ha pins s σ H (fun v H1=>False) I ⟨G,ρ,E,hG,hS,hx,by rw [e];exact hr⟩) fun u s1 ⟨v,H1,I1,r1,q⟩=>q.elim
 | bad=>
  rw [e] at hr
  exact ay hr
theorem sA {k:D->R} {σ:St} {H:Hp} {Q Q':VK} (hG:Same G H) (hS:SL X.K ad G H ρ σ) (hx:XP X ad σ E) (hr:RK X.K ad G H ((f ρ).bind k) Q E)
  (q: ∀ v d G1 H1,Step G H G1 H1->Seq X ad G1 H1 d v->RK X.K ad G1 H1 (k d) Q E->Q' v H1):tL X ad f σ H Q':=by
 refine⟨G,ρ,E,hG,hS,hx, ?_⟩
 cases e:f ρ with
 | ok d=>
  rw [e] at hr
  exact fun v G1 H1 st r=>q v d G1 H1 st r (RK.step hr st)
 | ow xs=>
  rw [e] at hr
  intro p vs G1 H1 st n m e' r
  obtain⟨G2,st2,r2⟩:=cW (X:=X) (ad:=ad) st n m e' r
  exact q _ _ G2 H1 st2 (.inl r2) (RK.step hr st2)
 | ex c=>
  rw [e] at hr
  exact hr
 | bad=>
  rw [e] at hr
  exact hr
theorem nZ {k:List D->R}:o8 [f] ρ k=(f ρ).bind fun x=>k [x]:=by
 unfold o8 args
 cases f ρ<;>rfl
def BOp (X:Cx) (ad:Ad) (fv:Value) (r:Fn):Prop:=
 ∀ (pins:List (Addr×Obj)) (s:Shared) (σ:St) (H G:Hp) (x:D) (v:V) (u:Value) (Q:VK) (E:Nat->Hp->Prop),Inv X pins σ H s->Same G H->Seq X ad G H x v->b9 v u->RK X.K ad G H (r [x]) Q E->
  wpAny (model X.prog X.w) X.A (call fv [u]) (EP X pins σ Q) X.xe s
theorem jA {x:Str} {id:String} {r:Fn} (ho:BOp X ad (.builtin id) r) (hg:L2.Gl X x) (hm:X.mg x=none) (hv:bootBuiltins x=some (.builtin id)) (ha:ML X ad a f) (hn:x≠"__name__") (hdb:(x==("__debug__":Str))=false)
  (he:starEach [a] X.env=(false,eval a X.env)::starEach [] X.env):ME X ad (.Call (.Name x p) [a] [] pos) (aB r [f]):=by
 intro pins s σ H Q I ⟨G,ρ,E,hG,hS,hx,hr⟩
 refine wpAny_Call_Name_kw (gU I hg hm hv ?_ hn hdb)
 unfold aB at hr
 rw [nZ] at hr
 refine PyProof.Rows.callWith_builtin1 (L2.thn (dR ha gA he pos pins s σ H (fun vs H1=> ∃ v d G1,vs=[v]/\Step G H G1 H1/\Seq X ad G1 H1 d v/\RK X.K ad G1 H1 (r [d]) Q E) I ?_) fun us s1 ⟨vs,H1,I1,r1,v,d,G1,e1,st,q,k⟩=> ?_) he rfl
 ·exact sA hG hS hx hr fun v d G1 H1 st q k=>⟨v,d,G1,rfl,st,q,k⟩
 ·subst e1
  obtain⟨u,rfl,ru⟩:=nO r1
  exact ho pins s1 σ H1 G1 d v u Q E I1 st.gh q ru k
theorem xJ {x:Str} {T:String} {r:Fn} (ho:BOp X ad (.type T) r) (hg:L2.Gl X x) (hm:X.mg x=none) (hv:bootBuiltins x=some (.type T)) (ha:ML X ad a f) (hn:x≠"__name__") (hdb:(x==("__debug__":Str))=false)
  (he:starEach [a] X.env=(false,eval a X.env)::starEach [] X.env):ME X ad (.Call (.Name x p) [a] [] pos) (aB r [f]):=by
 intro pins s σ H Q I ⟨G,ρ,E,hG,hS,hx,hr⟩
 refine wpAny_Call_Name_kw (gU I hg hm hv ?_ hn hdb)
 unfold aB at hr
 rw [nZ] at hr
 refine PyProof.Rows.callWith_type1 (L2.thn (dR ha gA he pos pins s σ H (fun vs H1=> ∃ v d G1,vs=[v]/\Step G H G1 H1/\Seq X ad G1 H1 d v/\RK X.K ad G1 H1 (r [d]) Q E) I ?_) fun us s1 ⟨vs,H1,I1,r1,v,d,G1,e1,st,q,k⟩=> ?_) he rfl
 ·exact sA hG hS hx hr fun v d G1 H1 st q k=>⟨v,d,G1,rfl,st,q,k⟩
 ·subst e1
  obtain⟨u,rfl,ru⟩:=nO r1
  exact ho pins s1 σ H1 G1 d v u Q E I1 st.gh q ru k
theorem aF3:BOp X ad (.builtin "len") eU:=by
 intro pins s σ H G x v u Q E I hG q ru hr
 have hr':RK X.K ad G H (match items x with | some xs=> .ok (.int xs.length) | none=> .bad) Q E:=hr
 cases e:items x with
 | none=>rw [e] at hr';exact hr'.elim
 | some ds=>
  rw [e] at hr'
  obtain⟨p,vs,rfl,hq,rq⟩:=q.items hG e
  have hq':SqL X.K H p vs\/SqT X.K H p vs:=hq.elim (fun z=> .inr z.2) fun z=> .inl z.2
  refine pI pins s σ H [.ref p] [u] Q I (.cons ru .nil) ⟨p,vs,rfl,hq', ?_⟩
  rw [rq.length]
  exact hr'.ok_now hG aY
theorem aF4:BOp X ad (.type "int") aJu:=by
 intro pins s σ H G x v u Q E I hG q ru hr
 cases x<;>try exact ay hr
 ·rcases q with q | ⟨_,_,_,z,_⟩
  ·unfold Rep at q;subst q
   exact pC pins s σ H _ [u] Q I (.cons ru .nil) (.inr ⟨_,rfl,hr.ok_now hG aY⟩)
  ·cases z
 ·rcases q with q | ⟨_,_,_,z,_⟩
  ·unfold Rep at q;subst q
   exact pC pins s σ H _ [u] Q I (.cons ru .nil) (.inl ⟨_,rfl,hr.ok_now hG aY⟩)
  ·cases z
theorem aF5:BOp X ad (.builtin "abs") aM6:=by
 intro pins s σ H G x v u Q E I hG q ru hr
 cases x<;>try exact ay hr
 rcases q with q | ⟨_,_,_,z,_⟩
 ·unfold Rep at q;subst q
  exact aA6 pins s σ H _ [u] Q I (.cons ru .nil) ⟨_,rfl,hr.ok_now hG aY⟩
 ·cases z
theorem aBj:BOp X ad (.type "list") aFk:=by
 intro pins s σ H G x v u Q E I hG q ru hr
 have hr':RK X.K ad G H (match items x with | some xs=> .ow xs | none=> .bad) Q E:=hr
 cases e:items x with
 | none=>rw [e] at hr';exact hr'.elim
 | some ds=>
  rw [e] at hr'
  obtain⟨p,vs,rfl,hq,rq⟩:=q.items hG e
  have hq':SqL X.K H p vs\/SqT X.K H p vs:=hq.elim (fun z=> .inr z.2) fun z=> .inl z.2
  exact pJ pins s σ H [.ref p] [u] Q I (.cons ru .nil) ⟨p,vs,rfl,hq',fun l hl=>hr'.ow_new hG rq hl⟩
theorem xK:BOp X ad (.type "tuple") dY:=by
 intro pins s σ H G x v u Q E I hG q ru hr
 have hr':RK X.K ad G H (match items x with | some xs=> .ok (.tup xs) | none=> .bad) Q E:=hr
 cases e:items x with
 | none=>rw [e] at hr';exact hr'.elim
 | some ds=>
  rw [e] at hr'
  obtain⟨p,vs,rfl,hq,rq⟩:=q.items hG e
  rcases hq with ⟨e2,hq⟩ | ⟨e2,hq⟩
  ·refine iJ pins s σ H [.ref p] [u] Q I (.cons ru .nil) ⟨p,vs,rfl, .inr ⟨hq,hr'.ok_now hG ?_⟩⟩
   rcases q with q | ⟨_,_,_,z,_⟩
   ·rw [e2] at q;exact q
   ·rw [e2] at z;cases z
  ·exact iJ pins s σ H [.ref p] [u] Q I (.cons ru .nil) ⟨p,vs,rfl, .inl ⟨hq,fun l hl=>hr'.tup_new hG rq hl⟩⟩
theorem kW: ∀ {ds:List D} {ns:List Int} {vs:List V},fK ds=some ns->aG X.K ad G ds vs->vs=ns.map V.int
 | [],ns,vs,e,r=>by
  cases e
  unfold aG at r
  exact r
 | d::ds,ns,vs,e,r=>by
  cases d<;>try (unfold fK at e;cases e)
  rename_i i
  unfold fK at e
  obtain⟨ms,e1,e2⟩:=zMd e
  subst e2
  unfold aG at r
  obtain⟨v,r',rfl,r1,r2⟩:=r
  unfold Rep at r1
  subst r1
  rw [kW e1 r2]
  rfl
theorem mM: ∀ {ds:List D} {ns:List Bool} {vs:List V},eI ds=some ns->aG X.K ad G ds vs->vs=ns.map V.bl
 | [],ns,vs,e,r=>by
  cases e
  unfold aG at r
  exact r
 | d::ds,ns,vs,e,r=>by
  cases d<;>try (unfold eI at e;cases e)
  rename_i i
  unfold eI at e
  obtain⟨ms,e1,e2⟩:=zMd e
  subst e2
  unfold aG at r
  obtain⟨v,r',rfl,r1,r2⟩:=r
  unfold Rep at r1
  subst r1
  rw [mM e1 r2]
  rfl
theorem n6 {A:Around} (hh:A.handled=none) (I:Inv X pins σ H s) {p:Addr} {vs:List V} (hq:SqL X.K H p vs\/SqT X.K H p vs) {Ex:Value->Shared->Prop} {Q':Value->Shared->Prop}
  (k: ∀ (its:List Value) (s2:Shared) (I':Addr) (fp wr:List Addr) (Stt:Nat->Heap->Prop),bI vs its->Walks X.prog X.w A I' fp wr its.length (fun i v=>its[i]? =some v) Stt->Stt 0 s2.heap->(∀ b∈fp,b<s2.heap.objs.size)->s2.os=s.os->s2.gens=s.gens->s2.drawn=s.drawn->
   (∀ b o,s.heap.get? b=some o->b∉wr)->(∀ b o,s.heap.get? b=some o->s2.heap.get? b=some o)->Q' (.ref I') s2):wpAny (model X.prog X.w) A (pyIter (.ref p)) Q' Ex s:=by
 rcases hq with hq | hq
 ·obtain⟨its,rv,pl,_⟩:=I.list hq
  have hlt:p<s.heap.objs.size:=by obtain⟨o,n,e,_⟩:=pl;exact ah e
  refine wpAny_pyIter_list pl.isList (k its _ s.heap.objs.size [s.heap.objs.size,p] [s.heap.objs.size] (fun i h=>h.IsListIter s.heap.objs.size p i/\h.IsList p its.toArray) rv ?_ (And.intro ⟨_,ag _ rfl,rfl,rfl⟩ ?_) ?_ rfl rfl rfl ?_ ?_)
  ·have W:=Walks.list (prog:=X.prog) (w:=X.w) hh s.heap.objs.size p (bg hlt) its.toArray
   simpa using W
  ·obtain⟨o,n,e,c,d⟩:=pl
   exact⟨o,af _ e,c,n,d.2⟩
  ·intro b hb
   rcases aq.mp hb with rfl | hb
   ·rw [ai];exact Nat.lt_succ_self _
   ·have:b=p:=by simpa using hb
    subst this
    rw [ai];exact Nat.lt_succ_of_lt hlt
  ·intro b o e hb
   have:b=s.heap.objs.size:=by simpa using hb
   subst this
   exact absurd (ah e) (Nat.lt_irrefl _)
  ·exact fun b o e=>af _ e
 ·obtain⟨its,rv,pl,_⟩:=I.tuple hq
  have hlt:p<s.heap.objs.size:=pl.lt
  refine wpAny_pyIter_tuple (show s.heap.IsTuple p its.toArray from pl) (k its _ s.heap.objs.size [s.heap.objs.size,p] [s.heap.objs.size] (fun i h=>h.IsTupleIter s.heap.objs.size p i/\h.IsTuple p its.toArray) rv ?_ (And.intro ⟨_,ag _ rfl,rfl,rfl⟩ ?_) ?_ rfl rfl rfl ?_ ?_)
  ·have W:=Walks.tuple (prog:=X.prog) (w:=X.w) hh s.heap.objs.size p (bg hlt) its.toArray
   simpa using W
  ·obtain⟨o,e,c⟩:=pl
   exact⟨o,af _ e,c⟩
  ·intro b hb
   rcases aq.mp hb with rfl | hb
   ·rw [ai];exact Nat.lt_succ_self _
   ·have:b=p:=by simpa using hb
    subst this
    rw [ai];exact Nat.lt_succ_of_lt hlt
  ·intro b o e hb
   have:b=s.heap.objs.size:=by simpa using hb
   subst this
   exact absurd (ah e) (Nat.lt_irrefl _)
  ·exact fun b o e=>af _ e
end
section
variable {X:Cx} {ad:Ad} {pins:List (Addr×Obj)} {s:Shared} {σ:St} {H G:Hp} {ρ:Rho} {Q:VK} {E:Nat->Hp->Prop} {pos p:Pos} {a b c:Expr} {f g h:F}
theorem _root_.L2.Inv.moved {wr:List Addr} {s2 s':Shared} (I:Inv X pins σ H s) (k1: ∀ b o,s.heap.get? b=some o->s2.heap.get? b=some o) (k2: ∀ b o,s.heap.get? b=some o->b∉wr) (e1:s2.os=s.os) (e2:s2.gens=s.gens) (e3:s2.drawn=s.drawn)
  (m:Moved wr (fun a b=>b=a) s2 s'):Inv X pins σ H s':=by
 have e:s'={ s with heap:=s'.heap,toks:=s'.toks }:=by
  obtain⟨h',g',d',t',o'⟩:=s'
  obtain⟨m1,m2,m3,m4,m5⟩:=m
  simp only at m2 m3 m4 ⊢
  rw [m2,m3,m4,e1,e2,e3]
 rw [e]
 exact I.kept fun b o q=>m.heap b o (k2 b o q) (k1 b o q)
theorem xL {ns:List Int} {its:List Value} (r:bI (ns.map V.int) its) {i:Nat} {v:Value} (e:its[i]? =some v): ∃ t,v= .int (ns.getD i 0) t:=by
 have hl:=r.length
 have hi:i<its.length:=(aw.mp e).1
 have hi':i<ns.length:=by rw [am] at hl;omega
 have e1:(ns.map V.int)[i]? =some (V.int ns[i]):=by simp [hi']
 obtain⟨u,e2,t,e3⟩:=r.get e1
 rw [e] at e2
 cases e2
 refine⟨t, ?_⟩
 rw [e3]
 simp [List.getD,hi']
theorem aF6 (hh:X.A.handled=none):BOp X ad (.builtin "sum") xA:=by
 intro pins s σ H G x v u Q E I hG q ru hr
 have hr':RK X.K ad G H (match(items x).bind fK with | some xs=> .ok (.int xs.sum) | none=> .bad) Q E:=hr
 cases e:items x with
 | none=>rw [e] at hr';exact hr'.elim
 | some ds=>
  rw [e] at hr'
  have hr2:RK X.K ad G H (match fK ds with | some xs=> .ok (.int xs.sum) | none=> .bad) Q E:=hr'
  cases e2:fK ds with
  | none=>rw [e2] at hr2;exact hr2.elim
  | some ns=>
   rw [e2] at hr2
   obtain⟨p,vs,rfl,hq,rq⟩:=q.items hG e
   have hq':SqL X.K H p vs\/SqT X.K H p vs:=hq.elim (fun z=> .inr z.2) fun z=> .inl z.2
   cases (show u=Value.ref p from ru)
   have ev:=kW e2 rq
   subst ev
   refine call_sum_walkAnyS (n6 (A:=X.A.in1) hh I hq' fun its s2 I' fp wr Stt rv W st hfp h1 h2 h3 h4 h5=> ?_)
   refine⟨I',fp,wr,_,its.length,_,_,fun i=>ns.getD i 0,rfl,W.toS,st,hfp,fun i v e=>xL rv e,fun s' t' m=> ?_⟩
   refine⟨.int ns.sum,H,I.moved h5 h4 h1 h2 h3 m,⟨t', ?_⟩,hr2.ok_now hG aY⟩
   rw [preSum_getD, <-rv.length,am,List.take_length]
theorem aNj {ns:List Bool} {its:List Value} (r:bI (ns.map V.bl) its) {i:Nat} {v:Value} (e:its[i]? =some v):v= .bool (ns.getD i false):=by
 have hl:=r.length
 have hi:i<its.length:=(aw.mp e).1
 have hi':i<ns.length:=by rw [am] at hl;omega
 have e1:(ns.map V.bl)[i]? =some (V.bl ns[i]):=by simp [hi']
 obtain⟨u,e2,e3⟩:=r.get e1
 rw [e] at e2
 cases e2
 have e4:v= .bool ns[i]:=e3
 rw [e4]
 simp [List.getD,hi']
theorem xM (ns:List Bool):(List.range ns.length).all (fun i=>ns.getD i false)=ns.all id:=by
 induction ns with
 | nil=>rfl
 | cons x xs ih=>
  rw [bo,List.range_succ_eq_map,List.all_cons,List.all_map,List.all_cons]
  have:(List.range xs.length).all ((fun i=>(x::xs).getD i false) ∘ Nat.succ)=xs.all id:=by
   rw [<-ih]
   rfl
  rw [this]
  rfl
theorem aF7 (hh:X.A.handled=none):BOp X ad (.builtin "all") aDv:=by
 intro pins s σ H G x v u Q E I hG q ru hr
 have hr':RK X.K ad G H (match(items x).bind eI with | some xs=> .ok (.bl (xs.all id)) | none=> .bad) Q E:=hr
 cases e:items x with
 | none=>rw [e] at hr';exact hr'.elim
 | some ds=>
  rw [e] at hr'
  have hr2:RK X.K ad G H (match eI ds with | some xs=> .ok (.bl (xs.all id)) | none=> .bad) Q E:=hr'
  cases e2:eI ds with
  | none=>rw [e2] at hr2;exact hr2.elim
  | some ns=>
   rw [e2] at hr2
   obtain⟨p,vs,rfl,hq,rq⟩:=q.items hG e
   have hq':SqL X.K H p vs\/SqT X.K H p vs:=hq.elim (fun z=> .inr z.2) fun z=> .inl z.2
   cases (show u=Value.ref p from ru)
   have ev:=mM e2 rq
   subst ev
   refine call_all_walkS (n6 (A:=X.A.in1) hh I hq' fun its s2 I' fp wr Stt rv W st hfp h1 h2 h3 h4 h5=> ?_)
   refine⟨I',fp,wr,_,its.length,_,_,fun i=>ns.getD i false,rfl,W.toS,st, ?_,fun s' m=> ?_⟩
   ·intro i v s' Q' E' e3 hQ
    rw [aNj rv e3]
    exact wpAny_truthy_bool hQ
   ·refine⟨.bl _,H,I.moved h5 h4 h1 h2 h3 m, ?_,hr2.ok_now hG bP⟩
    rw [<-rv.length,am,xM]
    rfl
theorem aBk {α:Type} {ds:List α} (h:ds.length=2): ∃ d e,ds=[d,e]:=by
 cases ds with
 | nil=>cases h
 | cons d r=>
  cases r with
  | nil=>cases h
  | cons e r=>
   cases r with
   | nil=>exact⟨d,e,rfl⟩
   | cons _ _=>simp at h
theorem vS {x:Str} {id:String} {r:Fn} {op:Int->Int->Int} (hd: ∀ i j,r [.int i, .int j]= .ok (.int (op i j))) (hb0: ∀ x y Q E G H,RK X.K ad G H (r [x,y]) Q E-> ∃ i j,x= .int i/\y= .int j)
  (ho:nN X (.builtin id) (fun xs H Q=> ∃ i j,xs=[.int i, .int j]/\Q (.int (op i j)) H)) (hg:L2.Gl X x) (hm:X.mg x=none) (hv:bootBuiltins x=some (.builtin id)) (ha:ME X ad a f) (hb:ME X ad b g) (hn:x≠"__name__")
  (hdb:(x==("__debug__":Str))=false) (he:starEach [a,b] X.env=(false,eval a X.env)::starEach [b] X.env) (he2:starEach [b] X.env=(false,eval b X.env)::starEach [] X.env):ME X ad (.Call (.Name x p) [a,b] [] pos) (aB r [f,g]):=by
 refine PE.imp (aA7 (id:=id) ho hg hm hv (rZ ha (rZ hb aD8 he2) he) hn hdb he (by rw [he2];rfl)) ?_
 rintro σ H Q ⟨G,ρ,E,hG,hS,hx,hr⟩
 refine xI hG hS hx hr fun vs ds G1 H1 st rq hl k=> ?_
 obtain⟨d,e,rfl⟩:=aBk hl
 obtain⟨i,j,rfl,rfl⟩:=hb0 d e Q E G1 H1 k
 unfold aG at rq
 obtain⟨v,r',rfl,r1,r2⟩:=rq
 unfold aG at r2
 obtain⟨v',r'',rfl,r3,r4⟩:=r2
 unfold aG at r4
 subst r4
 unfold Rep at r1 r3
 subst r1;subst r3
 rw [hd] at k
 exact⟨i,j,rfl,k.ok_now st.gh aY⟩
noncomputable def aBl (K:PySem.W.Frag) (ad:Ad) (n:Nat) (F:Fn):Sp:=fun vs H Q E=> ∃ G ds,Same G H/\aG K ad G ds vs/\ds.length=n/\RK K ad G H (F ds) Q (fun c H'=>E (.ref (ad.cls c)) none H')
theorem aF8 {CX:CXT} {k:Nat} {f:Addr} {fd:FuncData} {ps:List Str} {sp:Sp} {E:XK} {us:List Value} {vs:List V} (F:FnOk X.prog X.w X.K X.mg X.base CX k f fd ps sp) (hr:Room k X.A) (hb:kM X.K fd ps [])
  (I:Inv X pins σ H s) (r:bI vs us) (h:sp vs H Q E) (hx: ∀ e s',CX X.stack H s E e s'->X.xe e s'):wpAny (model X.prog X.w) X.A (call (.ref f) us) (EP X pins σ Q) X.xe s:=by
 have hl:(us++[]).length=ps.length:=by rw [List.append_nil, <-r.length];exact F.len _ _ _ _ h
 refine wpAny_call (codeAny_mono (F.run X.A X.stack s H ⟨us,[]⟩ us vs Q E hr I.env0 (by have:=hb s us I.kIn hl;rwa [List.append_nil] at this) r h) fun r s' hq=> ?_)
 cases r with
 | error e=>exact hx e s' hq
 | ok fl=>
  cases fl with
  | ret u=>exact I.after hq
  | next=>exact ay hq
  | brk=>exact ay hq
  | cont=>exact ay hq
structure FnGood (X:Cx) (ad:Ad) (k:Nat) (x:Str) (n:Nat) (F:Fn) (f:Addr):Prop where
 mg:X.mg x=some (.ref f)
 kp:PySem.W.keepIn X.K (.ref f)=true
 ok: ∃ fd ps,FnOk X.prog X.w X.K X.mg X.base (CXe X.prog X.w) k f fd ps (aBl X.K ad n F)/\kM X.K fd ps []
theorem xN {k n:Nat} {x:Str} {F:Fn} {f:Addr} {us:List Value} {vs:List V} {ds:List D} (T:FnGood X ad k x n F f) (hr:Room k X.A) (I:Inv X pins σ H s) (hG:Same G H) (hx:XP X ad σ E) (r:bI vs us) (rq:aG X.K ad G ds vs) (hl:ds.length=n)
  (h:RK X.K ad G H (F ds) Q E):wpAny (model X.prog X.w) X.A (call (.ref f) us) (EP X pins σ Q) X.xe s:=by
 obtain⟨fd,ps,F',hb⟩:=T.ok
 exact aF8 (E:=xk ad E) F' hr hb I r ⟨G,ds,hG,rq,hl,h.impE fun c H' e=>⟨c,rfl,e⟩⟩ fun e s' hc=>hx pins H s e s' I hc
theorem aF9 {k n:Nat} {x:Str} {F:Fn} {f:Addr} {es:List Expr} {fs:List SK.F} (T:FnGood X ad k x n F f) (hr:Room k X.A) (hg:L2.Gl X x) (hdb:(x==("__debug__":Str))=false) (ha:MA X ad (a::es) fs) (hn:fs.length=n)
  (he:starEach (a::es) X.env=(false,eval a X.env)::starEach es X.env) (hpl:(backTo pos (starEach es X.env)).any (·.1)=false):ME X ad (.Call (.Name x p) (a::es) [] pos) (aB F fs):=by
 intro pins s σ H Q I ⟨G,ρ,E,hG,hS,hx,hr'⟩
 refine wpAny_Call_Name_kw (nL I hg T.mg ?_ hdb)
 refine PySem.W.callWith_K (h₀:=X.base) I.ok.mod.kin T.kp (L2.thn (ha pos pins s σ H (fun vs H1=> ∃ ds G1,Step G H G1 H1/\aG X.K ad G1 ds vs/\ds.length=fs.length/\RK X.K ad G1 H1 (F ds) Q E) I
  (xI hG hS hx hr' fun vs ds G1 H1 st rq hl k=>⟨ds,G1,st,rq,hl,k⟩)) fun us s1 ⟨vs,H1,I1,r,ds,G1,st,rq,hl,k⟩=>⟨I1.kIn, ?_⟩) he hpl
 exact xN T hr I1 st.gh hx r rq (hl.trans hn) k
structure FnAt (X:Cx) (ad:Ad) (k:Nat) (n:Nat) (F:Fn) (f:Addr):Prop where
 kp:PySem.W.keepIn X.K (.ref f)=true
 ok: ∃ fd ps,FnOk X.prog X.w X.K X.mg X.base (CXe X.prog X.w) k f fd ps (aBl X.K ad n F)/\kM X.K fd ps []
end
noncomputable def rH (cells:List (Str×Addr)):List (Str×NameKind)->List (Str×Addr)->List (Str×Addr)
 | [],acc=>acc
 | (x,k)::r,acc=>rH cells r (if k== .free then(x,(cells.lookup x).getD 0)::acc else acc)
theorem n9 {cells:List (Str×Addr)}: ∀ {ns:List (Str×NameKind)} {acc:List (Str×Addr)} {x:Str} {c:Addr},(rH cells ns acc).lookup x=some c->(∃ k,(x,k)∈ns/\k= .free/\c=(cells.lookup x).getD 0)\/acc.lookup x=some c
 | [],acc,x,c,h=> .inr h
 | (y,k)::r,acc,x,c,h=>by
  rcases n9 (ns:=r) h with ⟨k',h1,h2,h3⟩ | h
  ·exact .inl ⟨k', .tail _ h1,h2,h3⟩
  ·by_cases hk:(k==NameKind.free)=true
   ·rw [if_pos hk,List.lookup_cons] at h
    cases hx:x==y with
    | true=>
     rw [hx] at h
     have e:x=y:=eq_of_beq hx
     subst e
     exact .inl ⟨k, .head _,eq_of_beq hk,(Option.some.inj h).symm⟩
    | false=>
     rw [hx] at h
     exact .inr h
   ·rw [if_neg hk] at h
    exact .inr h
theorem tV {cells:List (Str×Addr)}: ∀ {ns:List (Str×NameKind)} {acc:List (Str×Addr)} {x:Str},(acc.lookup x).isSome=true->((rH cells ns acc).lookup x).isSome=true
 | [],_,_,h=>h
 | (y,k)::r,acc,x,h=>by
  refine tV (ns:=r) ?_
  by_cases hk:(k==NameKind.free)=true
  ·rw [if_pos hk,List.lookup_cons]
   cases x==y with
   | true=>rfl
   | false=>exact h
  ·rw [if_neg hk]
   exact h
theorem oA {cells:List (Str×Addr)}: ∀ {ns:List (Str×NameKind)} {acc:List (Str×Addr)} {x:Str},(x,NameKind.free)∈ns->((rH cells ns acc).lookup x).isSome=true
 | [],_,_,h=>nomatch h
 | (y,k)::r,acc,x,h=>by
  rcases aq.mp h with e | h
  ·cases e
   refine tV (ns:=r) ?_
   rw [if_pos (by rfl),List.lookup_cons,beq_self_eq_true]
   rfl
  ·exact oA (ns:=r) h
theorem mO {sc:Scope} {env:PySem.Env} (h: ∀ x,(x,NameKind.free)∈sc.names->(env.cells.lookup x).isSome=true):closureFor sc env=pure (rH env.cells sc.names []):=by
 have go: ∀ (ns:List (Str×NameKind)) (acc:List (Str×Addr)),(∀ x,(x,NameKind.free)∈ns->(env.cells.lookup x).isSome=true)->
   (forIn ns acc (fun(p:Str×NameKind) (cs:List (Str×Addr))=>if p.2== .free then do let c<-cellOf env p.1;pure (ForInStep.yield ((p.1,c)::cs)) else pure (ForInStep.yield cs)):Sem (List (Str×Addr)))=pure (rH env.cells ns acc):=by
  intro ns
  induction ns with
  | nil=>intro acc _;rfl
  | cons p r ih=>
   intro acc hp
   obtain⟨x,k⟩:=p
   rw [List.forIn_cons]
   by_cases hk:(k==NameKind.free)=true
   ·have ek:k= .free:=eq_of_beq hk
    subst ek
    obtain⟨c,hc⟩:=Option.isSome_iff_exists.mp (hp x (.head _))
    have e1:cellOf env x=pure c:=by unfold cellOf;rw [hc]
    have e2:=ih ((x,c)::acc) fun y hy=>hp y (.tail _ hy)
    simp only [beq_self_eq_true,if_true,e1]
    show(forIn r ((x,c)::acc) _:Sem (List (Str×Addr)))=_
    rw [e2]
    show pure _=pure (rH env.cells r (if(NameKind.free==NameKind.free)=true then(x,(env.cells.lookup x).getD 0)::acc else acc))
    rw [if_pos (by rfl),hc]
    rfl
   ·simp only [hk]
    show(forIn r acc _:Sem (List (Str×Addr)))=_
    rw [ih acc fun y hy=>hp y (.tail _ hy)]
    show pure _=pure (rH env.cells r (if(k==NameKind.free)=true then _ else acc))
    rw [if_neg hk]
 have e:=go sc.names [] h
 have e2:closureFor sc env=((forIn sc.names ([]:List (Str×Addr)) (fun(p:Str×NameKind) (cs:List (Str×Addr))=>if p.2== .free then do let c<-cellOf env p.1;pure (ForInStep.yield ((p.1,c)::cs)) else pure (ForInStep.yield cs)):Sem (List (Str×Addr))) >>= fun cs=>pure cs):=rfl
 rw [e2,e]
 rfl
theorem b6 {env:PySem.Env} {x:Str}: ∀ {names:List (Str×NameKind)},(names.map fun(n,k)=>if(k==NameKind.free&&env.scope.kind== .function&&env.kindOf n==some .cell) then(n,NameKind.cell) else(n,k)).lookup x=
  (names.lookup x).map fun k=>if(k==NameKind.free&&env.scope.kind== .function&&env.kindOf x==some .cell) then NameKind.cell else k
 | []=>rfl
 | (n,k)::r=>by
  rw [List.map_cons]
  have ih:= @b6 env x r
  show List.lookup x ((if(k==NameKind.free&&env.scope.kind== .function&&env.kindOf n==some .cell)=true then(n,NameKind.cell) else(n,k))::_)=_
  by_cases hc:(k==NameKind.free&&env.scope.kind== .function&&env.kindOf n==some .cell)=true
  ·rw [if_pos hc,List.lookup_cons,List.lookup_cons]
   cases hx:x==n with
   | true=>
    have e:x=n:=eq_of_beq hx
    subst e
    simp only [Option.map,hc,if_true]
   | false=>exact ih
  ·rw [if_neg hc,List.lookup_cons,List.lookup_cons]
   cases hx:x==n with
   | true=>
    have e:x=n:=eq_of_beq hx
    subst e
    simp only [Option.map]
    rw [if_neg hc]
   | false=>exact ih
noncomputable def aMf:Nat->Nat->TGs
 | _,0=>aMs
 | j,n+1=>aE9 (kH j) (aMf (j+1) n)
noncomputable def gY:Nat->List V->St->St
 | _,[],σ=>σ
 | j,v::r,σ=>gY (j+1) r (σ.set j (some v))
theorem xO: ∀ {vs:List V} {j:Nat} {σ:St} {H:Hp} {Q:St->Hp->Prop},Q (gY j vs σ) H->aMf j vs.length vs σ H Q
 | [],_,_,_,_,h=>⟨rfl,h⟩
 | v::r,j,σ,H,Q,h=>⟨v,r,rfl,xO (vs:=r) (j:=j+1) (σ:=σ.set j (some v)) h⟩
theorem fO: ∀ {vs:List V} {j:Nat} {σ:St},(gY j vs σ).length=σ.length
 | [],_,_=>rfl
 | v::r,j,σ=>by
  show(gY (j+1) r (σ.set j (some v))).length=_
  rw [fO (vs:=r),List.length_set]
theorem kX: ∀ {vs:List V} {j i:Nat} {σ:St},j+vs.length<=i\/i<j->(gY j vs σ)[i]? =σ[i]?
 | [],_,_,_,_=>rfl
 | v::r,j,i,σ,h=>by
  show(gY (j+1) r (σ.set j (some v)))[i]? =_
  simp only [bo] at h
  rw [kX (vs:=r) (by omega),az (by omega)]
theorem pX: ∀ {vs:List V} {j i:Nat} {σ:St} {v:V},vs[i]? =some v->j+vs.length<=σ.length->(gY j vs σ)[j+i]? =some (some v)
 | [],_,_,_,_,h,_=>by simp at h
 | w::r,j,0,σ,v,h,hl=>by
  simp at h
  subst h
  show(gY (j+1) r (σ.set j (some w)))[j]? =_
  rw [kX (vs:=r) (.inr (by omega)),bh (by simp only [bo] at hl;omega)]
 | w::r,j,i+1,σ,v,h,hl=>by
  show(gY (j+1) r (σ.set j (some w)))[j+(i+1)]? =_
  have e:j+(i+1)=(j+1)+i:=by omega
  rw [e]
  exact pX (vs:=r) (by simpa using h) (by simp only [bo,List.length_set] at hl ⊢;omega)
section
variable {X:Cx} {ad:Ad}
theorem pY (hN:X.N.Nodup): ∀ {es:List Expr} {xs:List Str} {j:Nat},iM (fun(e:Expr)=>match e with | .Name x _=>some x | _=>none) es=some xs->(∀ (i:Nat) (x:Str),xs[i]? =some x->X.N[j+i]? =some x/\X.env.scope.names.lookup x=some .local)->PGs X es (aMf j xs.length)
 | [],xs,j,e,_=>by
  cases e
  exact wR
 | a::es,xs,j,e,h=>by
  unfold iM at e
  cases a<;>try (cases e)
  rename_i x px
  simp only at e
  obtain⟨r,e1,e2⟩:=zMd e
  subst e2
  obtain⟨h1,h2⟩:=h 0 x rfl
  refine sV (i7 hN (by simpa using h1) (.inl h2) (.inr h2)) (pY hN e1 fun i y hy=> ?_) rfl
  obtain⟨h3,h4⟩:=h (i+1) y (by simpa using hy)
  exact⟨by rw [<-h3];congr 1;omega,h4⟩
noncomputable def gTg (K:PySem.W.Frag) (k:Nat):TG:=match k with
 | 0=>kH 0
 | n+1=>aI6 K (n+1) (aMf 0 (n+1))
theorem aNk {tg:Expr} {xs:List Str} {k:Nat} (hc:X.calm=true) (hN:X.N.Nodup) (e:dU tg=some (xs,k)) (h: ∀ (i:Nat) (x:Str),xs[i]? =some x->X.N[i]? =some x/\X.env.scope.names.lookup x=some .local):PG X tg (gTg X.K k):=by
 cases tg<;>try (cases e)
 ·rename_i x px
  obtain⟨h1,h2⟩:=h 0 x rfl
  exact i7 hN h1 (.inl h2) (.inr h2)
 ·rename_i es j px
  unfold dU at e
  obtain⟨ys,e1,e2⟩:=zBd e
  by_cases hl:2<=ys.length
  ·rw [if_pos hl] at e2
   cases e2
   have P:=pY (X:=X) hN (j:=0) e1 fun i x hx=>by
    obtain⟨h1,h2⟩:=h i x hx
    exact⟨by rw [Nat.zero_add];exact h1,h2⟩
   have hlen:(assignEach es X.env).length=xs.length/\(assignEach es X.env).findIdx? (·.1)=none:=by
    clear P hl h e
    induction es generalizing xs with
    | nil=>cases e1;exact⟨rfl,rfl⟩
    | cons a r ih=>
     unfold iM at e1
     cases a<;>try (cases e1)
     rename_i z pz
     simp only at e1
     obtain⟨r',e3,e4⟩:=zMd e1
     subst e4
     obtain⟨i1,i2⟩:=ih e3
     have ec:assignEach (Expr.Name z pz::r) X.env=(false,assign (.Name z pz) X.env)::assignEach r X.env:=rfl
     rw [ec]
     refine⟨by simp [i1], ?_⟩
     rw [List.findIdx?_cons]
     simp [i2]
   obtain⟨n,hn⟩: ∃ n,xs.length=n+1:=⟨xs.length - 1,by omega⟩
   rw [hn] at P ⊢
   exact aDo hc P (by rw [<-hn];exact hlen.1) hlen.2
  ·rw [if_neg hl] at e2
   cases e2
end
structure ItH (X:Cx) (ad:Ad) (J:It) (G H:Hp) (ds:List D):Prop where
 go: ∀ (i:Nat) (G1 H1:Hp) (d:D),Step G H G1 H1->ds[i]? =some d->J.go i H1/\ ∀ x H2,J.yld i H1 x H2-> ∃ G2,Step G1 H1 G2 H2/\Rep X.K ad G2 d x
 stop: ∀ (G1 H1:Hp),Step G H G1 H1->J.stop ds.length H1
 few:ds.length<=sizeLine
def IK (X:Cx) (ad:Ad) (G H:Hp) (r:R) (W:It->Hp->Prop) (E:Nat->Hp->Prop):Prop:=match r with
 | .ok d=> ∃ ds,items d=some ds/\ ∀ J G' H',Step G H G' H'->ItH X ad J G' H' ds->W J H'
 | .ow xs=> ∀ J G' H',Step G H G' H'->ItH X ad J G' H' xs->W J H'
 | .ex c=> ∀ G' H',Step G H G' H'->E c H'
 | .bad=>False
noncomputable def tI (X:Cx) (ad:Ad) (f:F):TI:=fun σ H W=> ∃ G ρ E,Same G H/\SL X.K ad G H ρ σ/\XP X ad σ E/\IK X ad G H (f ρ) W E
abbrev MI (X:Cx) (ad:Ad) (tg e:Expr) (f:F):Prop:=PI X tg e (tI X ad f)
def Cel (sc:Scope):Prop:=pS sc=[]\/ ∃ x,pS sc=[x]/\sc.names.lookup x=some .cell
theorem cf0: ∀ {ns:List (Str×NameKind)} {a:Nat} {acc:List (Str×Addr)},(ns.filter fun p=>p.2== .cell).map (·.1)=[]->cellsFrom a ns acc=acc/\ ∀ h,pushCells h ns=h
 | [],_,_,_=>⟨rfl,fun _=>rfl⟩
 | (y,k)::r,a,acc,e=>by
  by_cases hk:(k==NameKind.cell)=true
  ·simp [List.filter_cons,hk] at e
  ·have e':(r.filter fun p=>p.2== .cell).map (·.1)=[]:=by simpa [List.filter_cons,hk] using e
   obtain⟨h1,h2⟩:=cf0 (a:=a) (acc:=acc) e'
   unfold cellsFrom pushCells
   exact⟨by rw [if_neg hk];exact h1,fun h=>by rw [if_neg hk];exact h2 h⟩
theorem cf1: ∀ {ns:List (Str×NameKind)} {a:Nat} {acc:List (Str×Addr)} {x:Str},(ns.filter fun p=>p.2== .cell).map (·.1)=[x]->cellsFrom a ns acc=(x,a)::acc/\ ∀ h,pushCells h ns=h.push { cls:= .type "cell",data:= .cell none }
 | [],_,_,_,e=>by simp at e
 | (y,k)::r,a,acc,x,e=>by
  by_cases hk:(k==NameKind.cell)=true
  ·have e':y=x/\(r.filter fun p=>p.2== .cell).map (·.1)=[]:=by simpa [List.filter_cons,hk] using e
   obtain⟨rfl,e'⟩:=e'
   obtain⟨h1,h2⟩:=cf0 (a:=a+1) (acc:=(y,a)::acc) e'
   unfold cellsFrom pushCells
   exact⟨by rw [if_pos hk];exact h1,fun h=>by rw [if_pos hk];exact h2 _⟩
  ·have e':(r.filter fun p=>p.2== .cell).map (·.1)=[x]:=by simpa [List.filter_cons,hk] using e
   obtain⟨h1,h2⟩:=cf1 (a:=a) (acc:=acc) e'
   unfold cellsFrom pushCells
   exact⟨by rw [if_neg hk];exact h1,fun h=>by rw [if_neg hk];exact h2 h⟩
noncomputable def clC (X:Cx) (sc:Scope) (L:Addr):List (Str×Addr):=cellsFrom (L+1) sc.names (rH X.env.cells sc.names [])
theorem fP {X:Cx} {sc:Scope} {L:Addr} {y:Str} {c:Addr} (hc:Cel sc) (h:(clC X sc L).lookup y=some c):(pS sc=[y]/\c=L+1)\/(rH X.env.cells sc.names []).lookup y=some c:=by
 unfold clC at h
 rcases hc with e | ⟨x,e,_⟩
 ·rw [(cf0 e).1] at h;exact .inr h
 ·rw [(cf1 e).1,List.lookup_cons] at h
  cases q:y==x with
  | true=>rw [q] at h;rw [eq_of_beq q];exact .inl ⟨e,(Option.some.inj h).symm⟩
  | false=>rw [q] at h;exact .inr h
theorem xP {X:Cx} {sc:Scope} {L:Addr} {x:Str} (e:pS sc=[x]):(clC X sc L).lookup x=some (L+1):=by
 unfold clC
 rw [(cf1 e).1,List.lookup_cons,beq_self_eq_true]
theorem tW {X:Cx} {sc:Scope} {L:Addr} {y:Str} {c:Addr} (hc:Cel sc) (hy:sc.names.lookup y=some .free) (h:(rH X.env.cells sc.names []).lookup y=some c):(clC X sc L).lookup y=some c:=by
 unfold clC
 rcases hc with e | ⟨x,e,hx⟩
 ·rw [(cf0 e).1];exact h
 ·rw [(cf1 e).1,List.lookup_cons]
  cases q:y==x with
  | true=>rw [eq_of_beq q,hx] at hy;cases hy
  | false=>exact h
noncomputable def cX (X:Cx) (N':List Str) (sc:Scope) (s3:Shared) (H3:Hp) (fp:List Addr) (pins:List (Addr×Obj)):Cx:=
 { X with N:=N',s₀:=s3,H₀:=H3,env:=compEnvC sc (clC X sc s3.heap.objs.size) s3.heap.objs.size X.env,outer:=X.stack,stack:=X.stack,ex:=fp,fn:=fun y=>decide (pS sc=[y]),pn:=X.pn++pins,xe:=fun _ _=>False }
section
variable {X:Cx} {ad:Ad} {pins:List (Addr×Obj)} {s s3:Shared} {σ:St} {H H3 G:Hp} {ρ:Rho} {Q:VK} {E:Nat->Hp->Prop} {pos:Pos} {sc:Scope} {N':List Str} {fp:List Addr}
theorem aBm {Y:Cx} {σ:St} (h:Y.xe=fun _ _=>False):XP Y ad σ (fun _ _=>False):=by
 intro pins H s e s' I hc
 obtain⟨ea,cls,a0,H',B,_,_,_,_,_,_,_,_,_,c,_,z⟩:=hc
 exact z.elim
theorem Un.sameBut {fs ex:List Addr} {H H':Hp} {h h1 h2:Heap} {C:Addr} (u:Un fs ex H H' h h1) (sb:Heap.SameBut C h1 h2) (hC:h.objs.size<=C):Un fs ex H H' h h2:=by
 have ne: ∀ b o,h.get? b=some o->b≠C:=fun b o e z=>by
  subst z
  exact absurd (bf (ah e) hC) (Nat.lt_irrefl _)
 refine⟨fun b o e n hb hx=> ?_,fun b o e n hb hx=> ?_,u.free,fun b o e hx=> ?_,u.tups,u.frzs,u.tbls⟩
 ·exact(sb.2 b (ne b o e)).trans (u.keep b o e n hb hx)
 ·obtain⟨sl,z⟩:=u.slot b o e n hb hx
  exact⟨sl,(sb.2 b (ne b o e)).trans z⟩
 ·obtain⟨o',z⟩:=u.there b o e hx
  exact⟨o',(sb.2 b (ne b o e)).trans z⟩
theorem aBn {fpO: ∀ b∈fp,rL X pins H3 b} {h4:Heap} {m:Str->Option Value} {t':Nat} (I:Inv X pins σ H3 s3) (hk:sc.kind= .function) (hc:Cel sc)
  (hfree: ∀ x,(x,NameKind.free)∈sc.names->X.env.kindOf x=some .cell\/X.env.kindOf x=some .free) (hnd: ∀ x,(x,NameKind.free)∈sc.names->sc.names.lookup x=some .free)
  (hfo: ∀ b∈fp,b<s3.heap.objs.size) (hns:h4.Ns s3.heap.objs.size m) (hkeep: ∀ b o,s3.heap.get? b=some o->h4.get? b=some o) (hnew: ∀ x,pS sc=[x]->h4.IsCell (s3.heap.objs.size+1) none)
  {σc:St} (hl:σc.length=N'.length) (hσ: ∀ (i:Nat) (x:Str) (v:V),N'[i]? =some x->σc[i]? =some (some v)-> ∃ j:Nat,X.N[j]? =some x/\σ[j]? =some (some v)/\(x,NameKind.free)∈sc.names):
  Inv (cX X N' sc s3 H3 fp pins) [] σc H3 { s3 with heap:=h4,toks:=t' }:=by
 have hcl: ∀ x c,(rH X.env.cells sc.names []).lookup x=some c->(x,NameKind.free)∈sc.names/\X.env.cells.lookup x=some c:=fun x c e=>by
  rcases n9 e with ⟨k,h1,h2,h3⟩ | h
  ·subst h2
   refine⟨h1, ?_⟩
   obtain⟨c',hc'⟩:=I.ok.has x (hfree x h1)
   rw [hc'] at h3
   rw [h3]
   exact hc'
  ·cases h
 have hlt: ∀ x c,(rH X.env.cells sc.names []).lookup x=some c->c<s3.heap.objs.size:=fun x c e=>by
  obtain⟨v,o,ho,_⟩:=I.cell x c (hcl x c e).2
  exact ah ho
 have stk: ∀ b,b∈frs X.stack->b=X.env.locals\/b∈X.fs:=fun b hb=>aq.mp (I.stkSub b hb)
 refine⟨⟨I.ok.mod,hk,I.ok.glob,I.ok.blt,aj _,fun x y c h1 h2=> ?_,fun x hx=> ?_,fun x c h1 h2=> ?_,I.ok.hd,I.ok.frames, .inl rfl,fun b hb=> ?_,I.bs,Nat.le_trans I.ok.bsz I.sz,fun b o e hb=> ?_,fun b hb hb'=> ?_,I.stack,I.stkFree⟩,
  rfl,I.bare,Un.kept hkeep,⟨m,hns,fun i x v h1 h2 h3=> ?_⟩,fun x c h=> ?_,I.hok.fresh (aj _),fun x c h=> ?_,fun q hq=> ?_,I.hok.kept hkeep,hl⟩
 ·rcases fP hc h1 with ⟨e1,z1⟩ | z1
  ·rcases fP hc h2 with ⟨e2,z2⟩ | z2
   ·rw [e1] at e2
    exact(List.cons.inj e2).1
   ·have:=hlt y c z2
    rw [z1] at this
    exact absurd this (Nat.not_lt.mpr (Nat.le_succ _))
  ·rcases fP hc h2 with ⟨e2,z2⟩ | z2
   ·have:=hlt x c z1
    rw [z2] at this
    exact absurd this (Nat.not_lt.mpr (Nat.le_succ _))
   ·exact I.ok.inj x y c (hcl x c z1).2 (hcl y c z2).2
 ·-- a name that is a cell here was free in the scope
  have e:(sc.names.lookup x).map (fun k=>if(k==NameKind.free&&X.env.scope.kind== .function&&X.env.kindOf x==some .cell) then NameKind.cell else k)=some .cell\/(sc.names.lookup x).map (fun k=>if(k==NameKind.free&&X.env.scope.kind== .function&&X.env.kindOf x==some .cell) then NameKind.cell else k)=some .free:=by
   rw [<-b6]
   exact hx
  cases q:sc.names.lookup x with
  | none=>rw [q] at e;rcases e with e | e<;>cases e
  | some k=>
   have hm:=PySem.mem_of_lookup q
   by_cases hkk:k= .free
   ·subst hkk
    obtain⟨c,hc'⟩:=Option.isSome_iff_exists.mp (oA (cells:=X.env.cells) (acc:=[]) hm)
    exact⟨c,tW hc q hc'⟩
   ·have hkf:(k==NameKind.free)=false:=by simpa using hkk
    rw [q] at e
    simp only [Option.map,hkf,Bool.false_and] at e
    rcases e with e | e
    ·have hkc:k= .cell:=by simpa using e
     subst hkc
     have hmem:x∈pS sc:=ao.mpr ⟨(x, .cell),List.mem_filter.mpr ⟨hm,by simp⟩,rfl⟩
     have hx1:pS sc=[x]:=by
      rcases hc with z | ⟨y,z,_⟩
      ·rw [z] at hmem;cases hmem
      ·rw [z] at hmem ⊢
       rw [List.mem_singleton.mp hmem]
     exact⟨_,xP hx1⟩
    ·exact absurd (by simpa using e) hkk
 ·have hx1:pS sc=[x]:=of_decide_eq_true h1
  have:=h2.symm.trans (xP hx1)
  cases this
  exact Nat.le_succ _
 ·obtain⟨f0,f1,f2,f3,f4,f5⟩:=fpO b hb
  refine⟨bg (hfo b hb),fun x c h=> ?_⟩
  rcases fP hc h with ⟨_,z⟩ | z
  ·rw [z];exact(bg (Nat.lt_succ_of_lt (hfo b hb))).symm
  ·exact f4 x c (hcl x c z).2
 ·obtain⟨f0,f1,f2,f3,f4,f5⟩:=fpO b hb
  rcases f3 with z | z
  ·exact I.ok.noex b o e z
  ·exact absurd (bf (ah e) (Nat.le_trans I.ok.bsz z)) (Nat.lt_irrefl _)
 ·obtain⟨f0,f1,f2,f3,f4,f5⟩:=fpO b hb
  rcases stk b hb' with z | z
  ·exact f1 z
  ·exact f2 z
 ·obtain⟨j,j1,j2,j3⟩:=hσ i x v h1 h2
  obtain⟨m0,hn0,hl0⟩:=I.loc
  have hkx:=hfree x j3
  have vis:Vis X.env.scope x:=by
   rcases hkx with z | z
   ·exact .inr (.inl z)
   ·exact .inr (.inr z)
  obtain⟨u,r,l⟩:=hl0 j x v j1 j2 vis
  refine⟨u,r, .inr ?_⟩
  rcases l with ⟨z,_⟩ | ⟨_,c,hcc,hcell'⟩
  ·rcases hkx with z' | z'
   ·have:X.env.kindOf x=some .local:=z
    rw [z'] at this;cases this
   ·have:X.env.kindOf x=some .local:=z
    rw [z'] at this;cases this
  ·refine⟨?_,c, ?_, ?_⟩
   ·have e1:(relabel sc X.env).names.lookup x=(sc.names.lookup x).map (fun k=>if(k==NameKind.free&&X.env.scope.kind== .function&&X.env.kindOf x==some .cell) then NameKind.cell else k):=b6
    have e2:(relabel sc X.env).names.lookup x=some .cell\/(relabel sc X.env).names.lookup x=some .free:=by
     rw [e1,hnd x j3]
     simp only [Option.map]
     split
     ·exact .inl rfl
     ·exact .inr rfl
    exact e2
   ·obtain⟨c',hc'⟩:=Option.isSome_iff_exists.mp (oA (cells:=X.env.cells) (acc:=[]) j3)
    have:=(hcl x c' hc').2
    rw [hcc] at this
    cases this
    exact tW hc (hnd x j3) hc'
   ·obtain⟨o,ho,hd⟩:=hcell'
    exact⟨o,hkeep _ _ ho,hd⟩
 ·rcases fP hc h with ⟨e,z⟩ | z
  ·rw [z];exact⟨none,hnew x e⟩
  ·obtain⟨v,o,ho,hd⟩:=I.cell x c (hcl x c z).2
   exact⟨v,o,hkeep _ _ ho,hd⟩
 ·rcases fP hc h with ⟨e,z⟩ | z
  ·rw [z];exact I.hok.fresh (Nat.le_succ _)
  ·exact I.freeC x c (hcl x c z).2
 ·have hq':q∈X.pn++pins:=by
   have h2:q∈(X.pn++pins)++[]:=hq
   rwa [List.append_nil] at h2
  obtain⟨e,n,ne,nf,d⟩:=I.pin q hq'
  refine⟨hkeep _ _ e,n,bg (ah e),fun z=> ?_,d⟩
  rcases stk _ z with z | z
  ·exact ne z
  ·exact nf z
theorem aEa {fpO: ∀ b∈fp,rL X pins H3 b} {σc:St} {H':Hp} {s':Shared} {h':Heap} {pn':List (Addr×Obj)} (I:Inv X pins σ H3 s3) (J:Inv (cX X N' sc s3 H3 fp pins) pn' σc H' s') (sb:Heap.SameBut s3.heap.objs.size s'.heap h'):Inv X pins σ H' { s' with heap:=h' }:=by
 have hfree:H' s3.heap.objs.size=none:=J.free
 refine I.call' (ch:=fp) (s':={ s' with heap:=h' }) J.os (Un.sameBut J.base sb (aj _)) (fun b u e=> ?_) J.bare fun b hb=> ?_
 ·refine(J.hok b u e).stay (fun c v hc q=> ?_) (fun _ q=>q) fun _ _ q=>q
  have ne:c≠s3.heap.objs.size:=by
   rintro rfl
   rcases hc with z | z
   ·rw [<-z] at e;rw [hfree] at e;cases e
   ·rw [hfree] at z;cases z
  exact(sb.2 c ne).trans q
 ·obtain⟨f0,f1,f2,f3,f4,f5⟩:=fpO b hb
  exact⟨f3,f1,f4,f5⟩
theorem sB {prog:Program} {w:World} {A:Around} {Rr:Result->Shared->Prop} {s:Shared} {elt target iter:Expr} {ifs:List Expr} {scope:Scope} {pos:Pos} {it acc:Value} {env:PySem.Env} (Iv:Nat->Shared->Prop)
  (turn: ∀ n s,Iv n s->wpAny (model prog w) A (pyNext it) (fun r s₁=>match r with
   | none=>Rr (.ok .next) s₁
   | some v=>wpAny (model prog w) A (letOwnedTupleGo target it v) (fun _ s₁'=>wpAny (model prog w) A (assign target env v) (fun _ s₂=>
     wpAny (model prog w) A (forIn ifs true fun c r=>if r=true then do let ok<-isTrue c env (eval c env);pure (ForInStep.yield ok) else pure (ForInStep.yield r)) (fun ok s₃=>
      if ok=true then wpAny (model prog w) A (eval elt env) (fun x s₄=>
       wpAny (model prog w) A (call (.builtin "list.append") [acc,x]) (fun _ s₅=> ∃ m,m<n/\Iv m s₅) (fun _ _=>False) s₄) (fun _ _=>False) s₃
      else ∃ m,m<n/\Iv m s₃) (fun _ _=>False) s₂) (fun _ _=>False) s₁') (fun _ _=>False) s₁) (fun _ _=>False) s)
  (n:Nat) (h:Iv n s):
  codeAny (model prog w) A (.compLoop (.ListComp elt [⟨target,iter,ifs,0⟩] scope pos) 0 it acc env) Rr s:=by
 refine codeAny_loop rfl Iv (fun n s hI=> ?_) n h
 show wpAny _ A ((compTurn (.ListComp elt [⟨target,iter,ifs,0⟩] scope pos) 0 it acc env).onRaise (fun x=>do noteFrame x env;theTreesLotGoes x)) _ _ s
 refine wpAny_noted (wpAny_noRaise ?_)
 rw [compTurn_list]
 refine aa (wpAny_standAt (aa (wpAny_mono (turn n s hI) (fun r s₁ h₁=> ?_) fun _ _ h'=>h')))
 cases r with
 | none=>exact ae h₁
 | some v=>
  refine aa (wpAny_mono h₁ (fun _ s₁' h₁'=> ?_) fun _ _ h'=>h')
  refine aa (wpAny_mono h₁' (fun _ s₂ h₂=>aa (wpAny_mono h₂ (fun ok s₃ h₃=> ?_) fun _ _ h'=>h')) fun _ _ h'=>h')
  cases ok with
  | false=>exact ae ⟨rfl,h₃⟩
  | true=>
   exact aa (aa (wpAny_mono h₃ (fun x s₄ h₄=>aa (wpAny_mono h₄ (fun _ s₅ h₅=>ae (ae ⟨rfl,h₅⟩)) fun _ _ h'=>h')) fun _ _ h'=>h'))
theorem kY {f:D->Option (Option D)} {d:D} {r all:List D} (h:bH f (d::r)=some all):(f d=some none/\bH f r=some all)\/ ∃ x all',f d=some (some x)/\bH f r=some all'/\all=x::all':=by
 unfold bH at h
 cases e:f d with
 | none=>rw [e] at h;cases h
 | some o=>
  rw [e] at h
  cases o with
  | none=>exact .inl ⟨rfl,h⟩
  | some x=>
   obtain⟨a,h1,h2⟩:=zMd h
   exact .inr ⟨x,a,rfl,h1,h2.symm⟩
theorem xQ {K:PySem.W.Frag} {G H:Hp} {ts cs:List Slot} {σ:St} (h:SL K ad G H (ts++cs) σ):SL K ad G H (ak ts.length .no++cs) σ:=by
 refine⟨by rw [<-h.len];simp,fun i sl e=> ?_⟩
 by_cases hi:i<ts.length
 ·rw [bt (by simpa using hi),List.getElem?_replicate,if_pos hi] at e
  cases e
  have hl:i<σ.length:=by rw [<-h.len,bn];omega
  exact⟨σ[i],by simp [hl],trivial⟩
 ·rw [bj (by simpa using hi),List.length_replicate] at e
  refine h.at_ i sl ?_
  rw [bj (by omega)]
  exact e
theorem aEb {K:PySem.W.Frag} {G H:Hp} {n:Nat} {cs:List Slot} {σ:St} {ds:List D} {vs:List V} (h:SL K ad G H (ak n .no++cs) σ) (r:aG K ad G ds vs) (hn:ds.length=n):SL K ad G H (ds.map Slot.sh++cs) (gY 0 vs σ):=by
 have hv:=r.length
 have hl:=h.len
 rw [bn,List.length_replicate] at hl
 refine⟨by rw [fO,bn,am];omega,fun i sl e=> ?_⟩
 by_cases hi:i<n
 ·rw [bt (by rw [am];omega),List.getElem?_map] at e
  cases e1:ds[i]? with
  | none=>rw [e1] at e;cases e
  | some d=>
   rw [e1] at e
   cases e
   obtain⟨v,e2,r2⟩:=r.get e1
   refine⟨some v, ?_,v,rfl,r2⟩
   have:=pX (j:=0) (σ:=σ) e2 (by omega)
   rwa [Nat.zero_add] at this
 ·rw [bj (by rw [am];omega),am,hn] at e
  obtain⟨ov,h1,h2⟩:=h.at_ i sl (by rw [bj (by rw [List.length_replicate];omega),List.length_replicate];exact e)
  exact⟨ov,by rw [kX (.inl (by omega))];exact h1,h2⟩
theorem aKi {K:PySem.W.Frag} {k:Nat} {d:D} {v:V} {ts cs:List Slot} {n:Nat} {σ:St} {G H Hs:Hp} {W:St->Hp->Prop} (e:tgt k d=some ts) (hn:n=if k=0 then 1 else k) (hG:Same G H) (r:Rep K ad G d v)
  (h:SL K ad G Hs (ak n .no++cs) σ) (q: ∀ σ',σ'.length=σ.length->SL K ad G Hs (ts++cs) σ'->W σ' H):ts.length=n/\gTg K k v σ H W:=by
 cases k with
 | zero=>
  cases e
  subst hn
  refine⟨rfl,q _ (by rw [List.length_set]) ?_⟩
  have:=aEb (ds:=[d]) (vs:=[v]) h (aG.cons r aG.nil) rfl
  exact this
 | succ k=>
  unfold tgt at e
  cases d<;>try (cases e)
  rename_i ds
  simp only at e
  by_cases hl:ds.length=k+1
  ·rw [if_pos hl] at e
   cases e
   rw [if_neg (by omega)] at hn
   subst hn
   unfold Rep at r
   obtain⟨a,vs,rfl,hq,rq⟩:=r
   refine⟨by rw [am];exact hl,a,vs,rfl,hG.seqT hq,by rw [rq.length];exact hl, ?_⟩
   have hvl:vs.length=k+1:=by rw [rq.length];exact hl
   have:=xO (vs:=vs) (j:=0) (σ:=σ) (H:=H) (Q:=W) (q _ fO (aEb h rq hl))
   rwa [hvl] at this
  ·rw [if_neg hl] at e
   cases e
end
section
variable {X:Cx} {ad:Ad} {pins:List (Addr×Obj)} {s s2 s3:Shared} {σ:St} {H H2 H3 G G2:Hp} {ρ:Rho} {Q:VK} {E:Nat->Hp->Prop} {pos:Pos} {sc:Scope} {N':List Str} {fp:List Addr}
 {tg it elt:Expr} {ifs:List Expr} {k nt:Nat} {xs:List Str} {cs:List Slot} {fc:Option F} {fe:F}
theorem kZ {x:Str}: ∀ {N:List Str} {i:Nat},idx x N=some i->N[i]? =some x
 | [],_,e=>by cases e
 | y::r,i,e=>by
  unfold idx at e
  by_cases h:x=y
  ·rw [if_pos h] at e
   cases e
   subst h
   rfl
  ·rw [if_neg h] at e
   obtain⟨j,e1,e2⟩:=zMd e
   subst e2
   simpa using kZ e1
def MTs (X:Cx) (ad:Ad) (ifs:List Expr) (fc:Option F):Prop:=match ifs,fc with
 | [],none=>True
 | [c],some f=>MT X ad c f
 | _,_=>False
theorem ME.val {a:Expr} {f:F} {x:SK.D} (ha:ME X ad a f) (I:Inv X pins σ H s) (hG:Same G H) (hS:SL X.K ad G H ρ σ) (hx:XP X ad σ E) (hf:f ρ= .ok x\/ ∃ l,f ρ= .ow l/\x= .lst l):
  wpAny (model X.prog X.w) X.A (eval a X.env) (fun u s1=> ∃ v G1 H1,Inv X pins σ H1 s1/\b9 v u/\Step G H G1 H1/\Rep X.K ad G1 x v) X.xe s:=by
 rcases hf with e | ⟨l,e,rfl⟩
 ·exact L2.thn (ha pins s σ H (fun v H1=> ∃ G1,Step G H G1 H1/\Rep X.K ad G1 x v) I ⟨G,ρ,E,hG,hS,hx,by rw [e];exact fun v G1 H1 st q=>⟨G1,st,q⟩⟩) fun u s1 ⟨v,H1,I1,r1,G1,st,q⟩=>⟨v,G1,H1,I1,r1,st,q⟩
 ·exact L2.thn (ha pins s σ H (fun v H1=> ∃ G1,Step G H G1 H1/\Rep X.K ad G1 (.lst l) v) I ⟨G,ρ,E,hG,hS,hx,by rw [e];exact fun p vs G1 H1 st n m e' q=>cW st n m e' q⟩) fun u s1 ⟨v,H1,I1,r1,G1,st,q⟩=>⟨v,G1,H1,I1,r1,st,q⟩
theorem MT.val {a:Expr} {f:F} {k:Bool} (ha:MT X ad a f) (I:Inv X pins σ H s) (hG:Same G H) (hS:SL X.K ad G H ρ σ) (hx:XP X ad σ E) (hf:f ρ= .ok (.bl k)):
  wpAny (model X.prog X.w) X.A (isTrue a X.env (eval a X.env)) (fun b s1=>b=k/\ ∃ G1 H1,Inv X pins σ H1 s1/\Step G H G1 H1) X.xe s:=by
 exact L2.thn (ha pins s σ H (fun b H1=>b=k/\ ∃ G1,Step G H G1 H1) I ⟨G,ρ,E,hG,hS,hx, .inl ⟨k,hf⟩,by rw [hf];exact fun v G1 H1 st q=>⟨k,by unfold Rep at q;exact q,rfl,G1,st⟩⟩) fun b s1 ⟨H1,I1,e,G1,st⟩=>⟨e,G1,H1,I1,st⟩
theorem eM {G1 H1 G2 H2:Hp} {D:Addr} {vs:List V} (st:Step G1 H1 G2 H2) (g:G1 D=none) (h:H1 D=some (.lst vs)):G2 D=none/\H2 D=some (.lst vs):=by
 refine⟨?_,st.sh _ _ h⟩
 cases z:G2 D with
 | none=>rfl
 | some o=>
  have:=st.nw D g (by rw [z];exact fun z=>nomatch z)
  rw [h] at this
  cases this
theorem pZ {G1 H1 G2 H2:Hp} {D:Addr} {o:HO} (st:Step G1 H1 G2 H2) (n:H1 D=none) (g:G2 D=none):Step G1 H1 G2 (upd H2 D o):=by
 refine⟨st.sg,fun b u e=> ?_,fun b u e=> ?_,st.nw⟩
 ·have ne:b≠D:=fun z=>by subst z;rw [g] at e;cases e
  rw [aM ne]
  exact st.gh b u e
 ·have ne:b≠D:=fun z=>by subst z;rw [n] at e;cases e
  rw [aM ne]
  exact st.sh b u e
noncomputable def hid (D:Addr) (H:Hp):Hp:=fun b=>if b=D then none else H b
theorem k8 {D b:Addr} {H:Hp} (h:b≠D):hid D H b=H b:=by unfold hid;rw [if_neg h]
theorem gN {D:Addr} {H:Hp}:hid D H D=none:=by unfold hid;rw [if_pos rfl]
theorem xR {D:Addr} {H:Hp}:Same (hid D H) H:=fun b o e=>by
 by_cases z:b=D
 ·subst z;rw [gN] at e;cases e
 ·rwa [k8 z] at e
theorem xS {D:Addr} {H:Hp} {o:HO}:hid D (upd H D o)=hid D H:=by
 funext b
 by_cases z:b=D
 ·subst z;rw [gN,gN]
 ·rw [k8 z,k8 z,aM z]
theorem aKj {D:Addr} {H:Hp} (h:H D=none):hid D H=H:=by
 funext b
 by_cases z:b=D
 ·subst z;rw [gN,h]
 ·rw [k8 z]
theorem j7 {G1 H1 G2 H2:Hp} {D:Addr} (st:Step G1 H1 G2 H2) (g:G2 D=none):Step G1 (hid D H1) G2 (hid D H2):=by
 refine⟨st.sg,fun b u e=> ?_,fun b u e=> ?_,fun b h1 h2=> ?_⟩
 ·have ne:b≠D:=fun z=>by subst z;rw [g] at e;cases e
  rw [k8 ne]
  exact st.gh b u e
 ·have ne:b≠D:=fun z=>by subst z;rw [gN] at e;cases e
  rw [k8 ne] at e ⊢
  exact st.sh b u e
 ·by_cases z:b=D
  ·subst z;exact gN
  ·rw [k8 z];exact st.nw b h1 h2
theorem SL.up {K:PySem.W.Frag} {G H H':Hp} {ρ:Rho} {σ:St} (h:SL K ad G H ρ σ) (s:Same H H'):SL K ad G H' ρ σ:=by
 refine⟨h.len,fun i sl e=> ?_⟩
 obtain⟨ov,h1,h2⟩:=h.at_ i sl e
 refine⟨ov,h1, ?_⟩
 cases sl with
 | no=>trivial
 | sh d=>exact h2
 | ow xs=>
  obtain⟨a,vs,e1,e2,e3,e4⟩:=h2
  exact⟨a,vs,e1,e2,s _ _ e3,e4⟩
 | dc kvs=>
  obtain⟨a,es,e1,e2,e3,e4⟩:=h2
  exact⟨a,es,e1,e2,s _ _ e3,e4⟩
 | sd kvs=>
  obtain⟨a,es,e1,e2,e3,e4⟩:=h2
  exact⟨a,es,e1,e2,s _ _ e3,e4⟩
theorem aBo {M:Model} {A:Around} {Ex:Value->Shared->Prop} {s:Shared} {sc:Scope} {gl:Addr} {cl:List (Str×Addr)} {q:Str} {o:PySem.Env} {Q:PySem.Env->Shared->Prop} (hc:Cel sc)
  (h: ∀ h4:Heap,h4.Ns s.heap.objs.size (fun _=>none)->(∀ b ob,s.heap.get? b=some ob->h4.get? b=some ob)->(∀ x,pS sc=[x]->h4.IsCell (s.heap.objs.size+1) none)->
   Q (newEnv sc s.heap.objs.size gl (cellsFrom (s.heap.objs.size+1) sc.names cl) q none .none (some o) builtinsNs) { s with heap:=h4 }):
  wpAny M A (newFunctionEnv sc gl cl [] q none .none (some o)) Q Ex s:=by
 simp only [newFunctionEnv,Option.isSome_some,if_true]
 refine aa (wpAny_alloc ?_)
 refine aa (wpAny_layCells _ (fun name kind cells=>by cases hkc:kind==NameKind.cell<;>simp [hkc]) _ _ _ _ ?_)
 have hns:(s.heap.push { cls:= .type "dict",data:= .dict #[] }).Ns s.heap.objs.size (fun _=>none):=Heap.Ns.new s.heap (.type "dict")
 have hkp: ∀ b ob,s.heap.get? b=some ob->(pushCells (s.heap.push { cls:= .type "dict",data:= .dict #[] }) sc.names).get? b=some ob:=fun b ob e=>pushCells_keeps _ _ b ob (af _ e)
 have hz:(s.heap.push { cls:= .type "dict",data:= .dict #[] }:Heap).objs.size=s.heap.objs.size+1:=ai ..
 rw [List.forIn_nil]
 refine aa (ae (ae ?_))
 have:=h _ (hns.keeps (pushCells_keeps _ _)) hkp fun x e=>by
  rw [(cf1 (a:=0) (acc:=[]) e).2]
  refine⟨{ cls:= .type "cell",data:= .cell none }, ?_,rfl⟩
  rw [<-hz]
  exact ag _ rfl
 rw [<-hz] at this
 exact this
theorem p0 {J:It} {ds all:List D} {itA:Addr} {tn:Nat->Heap->Prop} {RR:Value->Addr->Result->Shared->Prop} {Ex:Value->Shared->Prop} (hc:X.calm=true) (I2:Inv X pins σ H2 s2) (T:Turn X.prog X.w X.K tg J fp itA tn) (st2:tn 0 s2.heap)
  (f2: ∀ b∈fp,rL X pins H2 b) (hit:ItH X ad J G2 H2 ds) (hgo:bH (dD k cs fc fe) ds=some all) (hG2:Same G2 H2)
  (hk:sc.kind= .function) (hC:Cel sc)
  (hfree: ∀ x,(x,NameKind.free)∈sc.names->X.env.kindOf x=some .cell\/X.env.kindOf x=some .free) (hnd: ∀ x,(x,NameKind.free)∈sc.names->sc.names.lookup x=some .free)
  {σc:St} (hl:σc.length=N'.length) (hσ: ∀ (i:Nat) (x:Str) (v:V),N'[i]? =some x->σc[i]? =some (some v)-> ∃ j:Nat,X.N[j]? =some x/\σ[j]? =some (some v)/\(x,NameKind.free)∈sc.names)
  (hnt:nt=if k=0 then 1 else k) (hsl:SL X.K ad G2 H2 (ak nt .no++cs) σc)
  (hg: ∀ s3 H3 pins',PG (cX X N' sc s3 H3 fp pins') tg (gTg X.K k)) (hts: ∀ s3 H3 pins',MTs (cX X N' sc s3 H3 fp pins') ad ifs fc) (he: ∀ s3 H3 pins',ME (cX X N' sc s3 H3 fp pins') ad elt fe)
  (hEnd: ∀ (s3 s':Shared) (H3 H' G':Hp) (σ':St) (D:Addr) (vs:List V),Inv X pins σ H3 s3->(∀ b∈fp,rL X pins H3 b)->Inv (cX X N' sc s3 H3 fp pins) [] σ' H' s'->Step G2 H2 G' H'->H2 D=none->G' D=none->H' D=some (.lst vs)->aG X.K ad G' all vs->RR (.ref D) s3.heap.objs.size (.ok .next) s'):
  wpAny (model X.prog X.w) X.A (newList []) (fun acc s₃=>wpAny (model X.prog X.w) X.A (newFunctionEnv sc X.env.globals (rH X.env.cells sc.names []) [] X.env.qual none .none (some X.env)) (fun cenv s₄=>
   codeAny (model X.prog X.w) X.A (.compStart (.ListComp elt [⟨tg,it,ifs,0⟩] sc pos) 0 (.ref itA) acc { cenv with scope:=relabel sc X.env }) (RR acc cenv.locals) s₄) Ex s₃) Ex s2:=by
 refine wpAny_newObj_type ?_
 have hD:H2 s2.heap.objs.size=none:=I2.fresh
 have I3:Inv X pins σ (upd H2 s2.heap.objs.size (.lst [])) { s2 with heap:=s2.heap.push { cls:= .type "list",data:= .seq ([]:List Value).toArray } }:=I2.lnew (t':=s2.toks) .nil (bq _)
 generalize e3:({ s2 with heap:=s2.heap.push { cls:= .type "list",data:= .seq ([]:List Value).toArray } }:Shared)=s3 at I3
 have hsz:s3.heap.objs.size=s2.heap.objs.size+1:=by rw [<-e3];exact ai ..
 have hk3: ∀ b o,s2.heap.get? b=some o->s3.heap.get? b=some o:=fun b o e=>by rw [<-e3];exact af _ e
 generalize eD:s2.heap.objs.size=D at hD I3 hsz ⊢
 generalize eH:upd H2 D (.lst [])=H3 at I3
 have hH3D:H3 D=some (.lst []):=by rw [<-eH];exact a9
 have hstep3:Step G2 H2 G2 H3:=by rw [<-eH];exact Step.own hG2 hD
 have hfo: ∀ b∈fp,b<D:=fun b hb=>by
  obtain⟨o,e,_⟩:=T.obj 0 _ st2 b hb
  rw [<-eD]
  exact ah e
 have f3: ∀ b∈fp,rL X pins H3 b:=fun b hb=>by
  obtain⟨f0,fr⟩:=f2 b hb
  refine⟨?_,fr⟩
  rw [<-eH,aM (bg (hfo b hb))]
  exact f0
 refine aBo hC fun h4 hns hkeep4 hnew4=> ?_
 have I4:Inv (cX X N' sc s3 H3 fp pins) [] σc H3 { s3 with heap:=h4 }:=
  aBn (t':=s3.toks) (fpO:=f3) I3 hk hC hfree hnd (fun b hb=>bf (hfo b hb) (by rw [hsz];exact Nat.le_succ _)) hns hkeep4 hnew4 hl hσ
 have st4:tn 0 h4:=T.keep _ _ _ st2 fun b hb o e=>hkeep4 b o (hk3 b o e)
 have few:=hit.few
 -- what holds of the iterator's objects in the block
 have stat: ∀ {H':Hp},(∀ b∈fp,H' b=none)-> ∀ b∈fp,rL (cX X N' sc s3 H3 fp pins) [] H' b:=fun {H'} hn b hb=>by
  obtain⟨f0,f1,f2',f3',f4,f5⟩:=f3 b hb
  refine⟨hn b hb, ?_,fun z=> ?_, .inl hb,fun x c h=> ?_,fun q hq=> ?_⟩
  ·have hle:D<=s3.heap.objs.size:=by rw [hsz];exact Nat.le_succ _
   exact bg (bf (hfo b hb) hle)
  ·rcases aq.mp (I3.stkSub b z) with z | z
   ·exact f1 z
   ·exact f2' z
  ·rcases fP hC h with ⟨_,z⟩ | h'
   ·have hle:D<=s3.heap.objs.size:=by rw [hsz];exact Nat.le_succ _
    rw [z]
    exact(bg (Nat.lt_succ_of_lt (bf (hfo b hb) hle))).symm
   rcases n9 h' with ⟨kk,h1,h2,h3⟩ | h
   ·subst h2
    obtain⟨c',hc'⟩:=I3.ok.has x (hfree x h1)
    rw [hc'] at h3
    have e:c=c':=h3
    rw [e]
    exact f4 x c' hc'
   ·cases h
  ·have h2:q∈(X.pn++pins)++[]:=hq
   rw [List.append_nil] at h2
   exact f5 q h2
 have loop: ∀ s4:Shared,s4={ s3 with heap:=h4 }->
   codeAny (model X.prog X.w) X.A (.compLoop (.ListComp elt [⟨tg,it,ifs,0⟩] sc pos) 0 (.ref itA) (.ref D) (cX X N' sc s3 H3 fp pins).env) (RR (.ref D) s3.heap.objs.size) s4:=by
  rintro s4 rfl
  obtain⟨Iv,hIv⟩: ∃ Iv:Nat->Shared->Prop, ∀ n s',Iv n s'↔ ∃ (i:Nat) (σ':St) (H' G':Hp) (ys d7:List SK.D) (vs:List V),Inv (cX X N' sc s3 H3 fp pins) [] σ' H' s'/\tn i s'.heap/\(∀ b∈fp,H' b=none)/\Step G2 H2 G' H'/\G' D=none/\H' D=some (.lst vs)/\aG X.K ad G' ys vs/\
   bH (dD k cs fc fe) (ds.drop i)=some d7/\ys++d7=all/\i<=ds.length/\n=ds.length - i/\ys.length<=i/\SL X.K ad G' (hid D H') (ak nt .no++cs) σ':=⟨_,fun _ _=>Iff.rfl⟩
  refine sB Iv ?_ ds.length
   ((hIv _ _).mpr ⟨0,σc,H3,G2,[],all,[],I4,st4,fun b hb=>(f3 b hb).1,hstep3,pU hG2 hD,hH3D,aG.nil,hgo,rfl,bq _,rfl,aj _,by rw [<-eH,xS,aKj hD];exact hsl⟩)
  intro n s5 hI5
  obtain⟨i,σ5,H5,G5,ys,d7,vs,I5,st5,fr5,sp5,gD5,hD5,r5,go5,eq5,hi5,rfl,hy5,sl5⟩:=(hIv _ _).mp hI5
  by_cases hlt:i<ds.length
  ·-- a turn
   have ed:ds[i]? =some ds[i]:=by simp [hlt]
   generalize ds[i]=d at ed
   have edrop:ds.drop i=d::ds.drop (i+1):=by
    rw [List.drop_eq_getElem_cons hlt]
    congr 1
    have:=aw.mp ed
    exact this.2
   rw [edrop] at go5
   obtain⟨go,yl⟩:=hit.go i G5 H5 d sp5 ed
   refine L2.thn (T.item (cX X N' sc s3 H3 fp pins) rfl rfl rfl hc i [] s5 σ5 H5 (fun _ _=>False) I5 (stat fr5) st5 go) fun r s6 hz_=> ?_
   obtain⟨u,hr,h6⟩:=hz_
   subst hr
   refine L2.thn h6 fun _ s7 hz_=> ?_
   obtain⟨x,H7,I7,r7,y7,st7,fr7⟩:=hz_
   obtain⟨G7,sp7,rx7⟩:=yl x H7 y7
   have I7':=I7.pinned (stat fr7) (T.obj _ _ st7)
   obtain⟨gD7,hD7⟩:=eM sp7 gD5 hD5
   have sl7:=sl5.step (j7 sp7 gD7)
   -- the target
   have hcomp: ∃ ts,tgt k d=some ts:=by
    cases z:tgt k d with
    | some ts=>exact⟨ts,rfl⟩
    | none=>
     exfalso
     rcases kY go5 with ⟨e,_⟩ | ⟨x',_,e,_,_⟩<;>(unfold dD at e;rw [z] at e;cases e)
   obtain⟨ts,ets⟩:=hcomp
   obtain⟨htl,gt⟩:=aKi (W:=fun σ' H'=>H'=H7/\SL X.K ad G7 (hid D H7) (ts++cs) σ') ets hnt sp7.gh rx7 sl7 (fun σ' _ q=>⟨rfl,q⟩)
   refine L2.thn (hg s3 H3 pins _ s7 σ5 H7 x u _ I7' r7 gt) fun _ s8 hz_=> ?_
   obtain⟨σ8,H8,I8,e8,sl8⟩:=hz_
   subst e8
   -- again, at the turn's end
   have again: ∀ {s9:Shared} {H9 G9:Hp} {ys9 rest9:List SK.D} {vs9:List V},Inv (cX X N' sc s3 H3 fp pins) ([]++mD fp s7.heap) σ8 H9 s9->Step G2 H2 G9 H9->G9 D=none->H9 D=some (.lst vs9)->aG X.K ad G9 ys9 vs9->bH (dD k cs fc fe) (ds.drop (i+1))=some rest9->ys9++rest9=all->ys9.length<=i+1->
     SL X.K ad G9 (hid D H9) (ts++cs) σ8-> ∃ m,m<ds.length - i/\Iv m s9:=by
    intro s9 H9 G9 ys9 rest9 vs9 I9 sp9 gD9 hD9 r9 go9 eq9 hy9 sl9
    refine⟨ds.length - (i+1),by omega,(hIv _ _).mpr ⟨i+1,σ8,H9,G9,ys9,rest9,vs9,I9.unpinned,T.keep _ _ _ st7 fun b hb o e=>(I9.pin (b,o) (bp _ (bp _ (gM hb e)))).1,fun b hb=> ?_,sp9,gD9,hD9,r9,go9,eq9,by omega,rfl,hy9, ?_⟩⟩
    ·obtain⟨o,e,d'⟩:=T.obj _ _ st7 b hb
     exact(I9.pin (b,o) (bp _ (bp _ (gM hb e)))).2.1
    ·have:=xQ sl9
     rwa [htl] at this
   have xpF:XP (cX X N' sc s3 H3 fp pins) ad σ8 (fun _ _=>False):=aBm rfl
   have sp8:Step G2 H2 G7 H8:=sp5.trans sp7
   -- the element
   have elem: ∀ {s9:Shared} {H9 G9:Hp} (x':SK.D) (all':List SK.D),Inv (cX X N' sc s3 H3 fp pins) ([]++mD fp s7.heap) σ8 H9 s9->Step G7 H8 G9 H9->(fe (ts++cs)= .ok x'\/ ∃ l,fe (ts++cs)= .ow l/\x'= .lst l)->bH (dD k cs fc fe) (ds.drop (i+1))=some all'->d7=x'::all'->
     wpAny (model X.prog X.w) X.A (eval elt (cX X N' sc s3 H3 fp pins).env) (fun x s₄=>wpAny (model X.prog X.w) X.A (call (.builtin "list.append") [.ref D,x]) (fun _ s₅=> ∃ m,m<ds.length - i/\Iv m s₅) (fun _ _=>False) s₄) (fun _ _=>False) s9:=by
    intro s9 H9 G9 x' all' I9 sp9 hf hgo' hrest
    obtain⟨gD9,hD9⟩:=eM sp9 gD7 hD7
    have sl9:=sl8.step (j7 sp9 gD9)
    refine L2.thn (ME.val (X:=cX X N' sc s3 H3 fp pins) (he s3 H3 pins) I9 sp9.gh (sl9.up xR) xpF hf) fun u10 s10 hz_=> ?_
    obtain⟨v10,G10,H10,I10,r10,sp10,q10⟩:=hz_
    obtain⟨gD10,hD10⟩:=eM sp10 gD9 hD9
    have hlen:vs.length<sizeLine:=by
     have:=r5.length
     omega
    refine L2.thn (pL (X:=cX X N' sc s3 H3 fp pins) _ s10 σ8 H10 (.ref D) [v10] (.ref D) [u10] (fun _ H'=>H'=upd H10 D (.lst (vs++[v10]))) I10 rfl (.cons r10 .nil) ⟨D,vs,v10,rfl,rfl,hD10,hlen,rfl⟩) fun _ s11 hz_=> ?_
    obtain⟨_,H11,I11,_,e11⟩:=hz_
    subst e11
    have spT:Step G2 H2 G10 H10:=(sp8.trans sp9).trans sp10
    have spA:Step G2 H2 G10 (upd H10 D (.lst (vs++[v10]))):=pZ spT hD gD10
    have rA:aG X.K ad G10 (ys++[x']) (vs++[v10]):=((r5.mono sp7.sg).mono sp9.sg).mono sp10.sg |>.append (aG.cons q10 aG.nil)
    have slA:SL X.K ad G10 (hid D (upd H10 D (.lst (vs++[v10])))) (ts++cs) σ8:=by
     rw [xS]
     exact sl9.step (j7 sp10 gD10)
    refine again I11 spA gD10 a9 rA hgo' ?_ (by simp;omega) slA
    rw [List.append_assoc]
    rw [hrest] at eq5
    exact eq5
   rcases kY go5 with ⟨e,hgo'⟩ | ⟨x',all',e,hgo',hrest⟩
   ·-- left out
    unfold dD at e
    rw [ets] at e
    cases fc with
    | none=>
     exfalso
     simp only at e
     cases z:fe (ts++cs)<;>rw [z] at e<;>cases e
    | some f0=>
     simp only at e
     have hT:=hts s3 H3 pins
     match ifs,hT with
     | [c0],hT=>
      have hv:f0 (ts++cs)= .ok (.bl false):=by
       cases z:f0 (ts++cs) with
       | ok dd=>
        rw [z] at e
        cases dd<;>try (cases e)
        rename_i bb
        cases bb with
        | false=>rfl
        | true=>
         exfalso
         simp only at e
         cases z':fe (ts++cs)<;>rw [z'] at e<;>cases e
       | ow _=>rw [z] at e;cases e
       | ex _=>rw [z] at e;cases e
       | bad=>rw [z] at e;cases e
      refine wpAny_tests_one (L2.thn (MT.val (X:=cX X N' sc s3 H3 fp pins) hT I8 sp7.gh (sl8.up xR) xpF hv) fun ok s9 hz_=> ?_)
      obtain⟨eb,G9,H9,I9,sp9⟩:=hz_
      subst eb
      obtain⟨gD9,hD9⟩:=eM sp9 gD7 hD7
      exact aDt (again I9 (sp8.trans sp9) gD9 hD9 ((r5.mono sp7.sg).mono sp9.sg) hgo' eq5 (by omega) (sl8.step (j7 sp9 gD9)))
     | [],hT=>exact hT.elim
     | _::_::_,hT=>exact hT.elim
   ·-- taken
    unfold dD at e
    rw [ets] at e
    cases fc with
    | none=>
     have hT:=hts s3 H3 pins
     match ifs,hT with
     | [],_=>
      refine wpAny_tests_nil (aBb ?_)
      refine elem x' all' I8 (Step.refl sp7.gh) ?_ hgo' hrest
      simp only at e
      cases z:fe (ts++cs) with
      | ok dd=>rw [z] at e;cases e;exact .inl rfl
      | ow l=>rw [z] at e;cases e;exact .inr ⟨l,rfl,rfl⟩
      | ex _=>rw [z] at e;cases e
      | bad=>rw [z] at e;cases e
     | _::r1,hT=>cases r1<;>exact ay hT
    | some f0=>
     simp only at e
     have hT:=hts s3 H3 pins
     match ifs,hT with
     | [c0],hT=>
      have hv:f0 (ts++cs)= .ok (.bl true)/\(fe (ts++cs)= .ok x'\/ ∃ l,fe (ts++cs)= .ow l/\x'= .lst l):=by
       cases z:f0 (ts++cs) with
       | ok dd=>
        rw [z] at e
        cases dd<;>try (cases e)
        rename_i bb
        cases bb with
        | false=>simp only at e;cases e
        | true=>
         simp only at e
         refine⟨rfl, ?_⟩
         cases z':fe (ts++cs) with
         | ok dd=>rw [z'] at e;cases e;exact .inl rfl
         | ow l=>rw [z'] at e;cases e;exact .inr ⟨l,rfl,rfl⟩
         | ex _=>rw [z'] at e;cases e
         | bad=>rw [z'] at e;cases e
       | ow _=>rw [z] at e;cases e
       | ex _=>rw [z] at e;cases e
       | bad=>rw [z] at e;cases e
      refine wpAny_tests_one (L2.thn (MT.val (X:=cX X N' sc s3 H3 fp pins) hT I8 sp7.gh (sl8.up xR) xpF hv.1) fun ok s9 hz_=> ?_)
      obtain⟨eb,G9,H9,I9,sp9⟩:=hz_
      subst eb
      exact aBb (elem x' all' I9 sp9 hv.2 hgo' hrest)
     | [],hT=>exact hT.elim
     | _::_::_,hT=>exact hT.elim
  ·-- the end
   have ei:i=ds.length:=by omega
   subst ei
   rw [List.drop_length] at go5
   cases go5
   rw [List.append_nil] at eq5
   subst eq5
   refine L2.thn (T.done (cX X N' sc s3 H3 fp pins) rfl rfl rfl hc ds.length [] s5 σ5 H5 (fun _ _=>False) I5 (stat fr5) st5 (hit.stop G5 H5 sp5)) fun r s6 hz_=> ?_
   obtain⟨hr,I6⟩:=hz_
   subst hr
   exact hEnd s3 s6 H3 H5 G5 σ5 D vs I3 f3 I6 sp5 hD gD5 hD5 r5
 exact codeAny_compStart_list (loop _ rfl) (T.self _ 0 _ _ _ st4 (loop _ rfl))
theorem mP {C:Ctx} {cs:List Nat} {nt:Nat} (hxs:xs.length=nt) (hN:X.N=C.N) (hcs:iM (fun x=>fV C x) (bO sc)=some cs) (hfr: ∀ x∈bO sc,(x,NameKind.free)∈sc.names) (hS:SL X.K ad G H ρ σ) (hlen:σ.length=X.N.length):
  ∃ σc:St,σc.length=(xs++bO sc).length/\(∀ (i:Nat) (x:Str) (v:V),(xs++bO sc)[i]? =some x->σc[i]? =some (some v)-> ∃ j:Nat,X.N[j]? =some x/\σ[j]? =some (some v)/\(x,NameKind.free)∈sc.names)/\
   SL X.K ad G H (ak nt .no++iH cs ρ) σc:=by
 have key: ∀ (ys:List Str) (js:List Nat),iM (fun x=>fV C x) ys=some js->js.length=ys.length/\ ∀ (i:Nat) (y:Str),ys[i]? =some y-> ∃ j,js[i]? =some j/\C.N[j]? =some y:=by
  intro ys
  induction ys with
  | nil=>intro js e;cases e;exact⟨rfl,fun i y h=>by simp at h⟩
  | cons y r ih=>
   intro js e
   unfold iM at e
   cases e1:fV C y with
   | none=>rw [e1] at e;cases e
   | some j=>
    rw [e1] at e
    obtain⟨js',e2,e3⟩:=zMd e
    subst e3
    obtain⟨i1,i2⟩:=ih js' e2
    refine⟨by simp [i1],fun i z h=> ?_⟩
    cases i with
    | zero=>
     simp at h
     subst h
     refine⟨j,rfl, ?_⟩
     have hidx:idx y C.N=some j:=by
      unfold fV at e1
      split at e1
      ·exact e1
      ·exact e1
      ·cases e1
     exact kZ hidx
    | succ i=>
     obtain⟨j',h1,h2⟩:=i2 i z (by simpa using h)
     exact⟨j',by simpa using h1,h2⟩
 obtain⟨k1,k2⟩:=key (bO sc) cs hcs
 refine⟨ak nt none++cs.map (fun j=>(σ[j]?).getD none),by simp [k1,hxs],fun i x v h1 h2=> ?_, ?_,fun i sl e=> ?_⟩
 ·by_cases hi:i<nt
  ·rw [bt (by simpa using hi),List.getElem?_replicate,if_pos hi] at h2
   cases h2
  ·rw [bj (by simpa using hi),List.length_replicate,List.getElem?_map] at h2
   rw [bj (by omega),hxs] at h1
   obtain⟨j,j1,j2⟩:=k2 (i - nt) x h1
   rw [j1] at h2
   have h3:(σ[j]?).getD none=some v:=Option.some.inj h2
   refine⟨j,by rw [hN];exact j2, ?_,hfr x (List.mem_of_getElem? h1)⟩
   cases q:σ[j]? with
   | none=>rw [q] at h3;cases h3
   | some ov=>rw [q] at h3;exact congrArg some h3
 ·simp [iH]
 ·by_cases hi:i<nt
  ·rw [bt (by simpa using hi),List.getElem?_replicate,if_pos hi] at e
   cases e
   refine⟨none, ?_,trivial⟩
   rw [bt (by simpa using hi),List.getElem?_replicate,if_pos hi]
  ·rw [bj (by simpa using hi),List.length_replicate] at e
   unfold iH at e
   rw [List.getElem?_map] at e
   cases q:cs[i - nt]? with
   | none=>rw [q] at e;cases e
   | some j=>
    rw [q] at e
    have e':(ρ[j]?).getD .no=sl:=Option.some.inj e
    refine⟨(σ[j]?).getD none, ?_, ?_⟩
    ·rw [bj (by simpa using hi),List.length_replicate,List.getElem?_map,q]
     rfl
    ·cases q2:ρ[j]? with
     | none=>rw [q2] at e';subst e';trivial
     | some sl'=>
      rw [q2] at e'
      have e'':sl'=sl:=e'
      subst e''
      obtain⟨ov,z1,z2⟩:=hS.at_ j sl' q2
      rw [z1]
      exact z2
end
section
variable {X:Cx} {ad:Ad} {pins:List (Addr×Obj)} {s s2 s3:Shared} {σ:St} {H H2 H3 G G2:Hp} {ρ:Rho} {Q:VK} {E:Nat->Hp->Prop} {pos:Pos} {sc:Scope} {N':List Str} {fp:List Addr}
 {tg it elt:Expr} {ifs:List Expr} {k nt:Nat} {xs:List Str} {cs:List Nat} {fc:Option F} {fi fe:F}
theorem aGa (h: ∀ a b c,it≠ .Set a b c): ∀ x,foldedSetIterable it X.env x=pure x:=by
 intro x
 cases it<;>first | rfl | exact absurd rfl (h _ _ _)
structure CompSc (X:Cx) (C:Ctx) (sc:Scope) (xs:List Str) (cs:List Nat):Prop where
 kind:sc.kind= .function
 cell:Cel sc
 names: ∀ y∈sc.names,y.2= .local->sc.names.lookup y.1=some .local
 fre: ∀ x,(x,NameKind.free)∈sc.names->X.env.kindOf x=some .cell\/X.env.kindOf x=some .free
 frl: ∀ x,(x,NameKind.free)∈sc.names->sc.names.lookup x=some .free
 N:X.N=C.N
 cs:iM (fun x=>fV C x) (bO sc)=some cs
theorem p6 {x:Str} (h:x∈bO sc):(x,NameKind.free)∈sc.names:=by
 unfold bO at h
 obtain⟨p,hp,rfl⟩:=ao.mp h
 obtain⟨h1,h2⟩:=List.mem_filter.mp hp
 obtain⟨y,kk⟩:=p
 have:kk= .free:=by simpa using h2
 subst this
 exact h1
theorem aKk {W:It->Hp->Prop} (hr:RK X.K ad G H (aF k cs fi fc fe ρ) Q E)
  (q: ∀ J G2 H2 ds all,Step G H G2 H2->ItH X ad J G2 H2 ds->bH (dD k (iH cs ρ) fc fe) ds=some all->RK X.K ad G2 H2 (.ow all) Q E->W J H2):IK X ad G H (fi ρ) W E:=by
 unfold aF at hr
 cases e:fi ρ with
 | ok d=>
  rw [e] at hr
  have hr':RK X.K ad G H (match items d with | some ds=>(match bH (dD k (iH cs ρ) fc fe) ds with | some xs=> .ow xs | none=> .bad) | none=> .bad) Q E:=hr
  cases e2:items d with
  | none=>rw [e2] at hr';exact hr'.elim
  | some ds=>
   rw [e2] at hr'
   have hr2:RK X.K ad G H (match bH (dD k (iH cs ρ) fc fe) ds with | some xs=> .ow xs | none=> .bad) Q E:=hr'
   cases e3:bH (dD k (iH cs ρ) fc fe) ds with
   | none=>rw [e3] at hr2;exact hr2.elim
   | some all=>
    rw [e3] at hr2
    exact⟨ds,e2,fun J G' H' st hi=>q J G' H' ds all st hi e3 (RK.step hr2 st)⟩
 | ow l=>
  rw [e] at hr
  have hr2:RK X.K ad G H (match bH (dD k (iH cs ρ) fc fe) l with | some xs=> .ow xs | none=> .bad) Q E:=hr
  cases e3:bH (dD k (iH cs ρ) fc fe) l with
  | none=>rw [e3] at hr2;exact hr2.elim
  | some all=>
   rw [e3] at hr2
   exact fun J G' H' st hi=>q J G' H' l all st hi e3 (RK.step hr2 st)
 | ex c=>rw [e] at hr;exact hr
 | bad=>rw [e] at hr;exact hr
theorem aGb {C:Ctx} (hc:X.calm=true) (S:CompSc X C sc xs cs) (hi:MI X ad tg it fi) (hset: ∀ a b c,it≠ .Set a b c) (hxs:xs.length=if k=0 then 1 else k)
  (hg: ∀ fp s3 H3 pins',PG (cX X (xs++bO sc) sc s3 H3 fp pins') tg (gTg X.K k)) (hts: ∀ fp s3 H3 pins',MTs (cX X (xs++bO sc) sc s3 H3 fp pins') ad ifs fc) (he: ∀ fp s3 H3 pins',ME (cX X (xs++bO sc) sc s3 H3 fp pins') ad elt fe):
  ME X ad (.ListComp elt [⟨tg,it,ifs,0⟩] sc pos) (aF k cs fi fc fe):=by
 intro pins s σ H Q I ⟨G,ρ,E,hG,hS,hx,hr⟩
 rw [eval_ListComp]
 have hcl:closureFor sc X.env=pure (rH X.env.cells sc.names []):=mO fun x hx=>by
  obtain⟨c,h⟩:=I.ok.has x (S.fre x hx)
  rw [h];rfl
 refine wpAny_comprehension_free (use:=none) rfl (aGa hset) hcl S.kind S.names ?_
 show wpAny (model X.prog X.w) X.A (eval it X.env) _ X.xe s
 refine L2.thn (hi pins s σ H _ I ⟨G,ρ,E,hG,hS,hx,aKk (W:=fun J H2=> ∃ G2 ds all,Step G H G2 H2/\ItH X ad J G2 H2 ds/\bH (dD k (iH cs ρ) fc fe) ds=some all/\RK X.K ad G2 H2 (.ow all) Q E) hr fun J G2 H2 ds all a b c d=>⟨G2,ds,all,a,b,c,d⟩⟩) fun v s1 h1=>
  L2.thn h1 fun itv s2 hz_=> ?_
 obtain⟨itA,fp,tn,J,H2,e,I2,T,st2,f2,G2,ds,all,sp,hit,hgo,hr2⟩:=hz_
 subst e
 obtain⟨σc,l1,l2,l3⟩:=mP (xs:=xs) (sc:=sc) (nt:=if k=0 then 1 else k) hxs S.N S.cs (fun x h=>p6 h) (hS.step sp) I2.len
 refine p0 (σc:=σc) hc I2 T st2 f2 hit hgo sp.gh S.kind S.cell S.fre S.frl l1 l2 rfl l3 (hg fp) (hts fp) (he fp) fun s3 s' H3 H' G' σ' D vs I3 f3 J' sp' hD gD hD' r'=> ?_
 obtain⟨m,hns,_⟩:=J'.loc
 refine⟨m,hns,fun h' sb=>⟨.ref D,H',aEa (fpO:=f3) I3 J' sb,rfl,hr2 D vs G' H' sp' hD gD hD' r'⟩⟩
theorem aGc {a:Addr} {vs:List V} {ds:List D} (hq:SqT X.K H a vs) (r:aG X.K ad G ds vs) (hG:Same G H) (few:vs.length<=sizeLine):ItH X ad (Itt X.K a) G H ds:=by
 refine⟨fun i G1 H1 d st e=> ?_,fun G1 H1 st=>⟨vs,st.sh.seqT hq,by rw [r.length];exact aj _⟩,by rw [<-r.length];exact few⟩
 obtain⟨v,e1,r1⟩:=r.get e
 refine⟨⟨vs,v,st.sh.seqT hq,e1⟩, ?_⟩
 rintro x H2 ⟨rfl,y⟩
 have:=y vs (st.sh.seqT hq)
 rw [e1] at this
 cases this
 exact⟨G1,Step.refl st.gh,r1.mono st.sg⟩
theorem aGd {a:Addr} {vs:List V} {ds:List D} (hq:SqL X.K H a vs) (r:aG X.K ad G ds vs) (hG:Same G H) (few:vs.length<=sizeLine):ItH X ad (Itl X.K a) G H ds:=by
 refine⟨fun i G1 H1 d st e=> ?_,fun G1 H1 st=>⟨vs,st.sh.seq hq,by rw [r.length];exact aj _⟩,by rw [<-r.length];exact few⟩
 obtain⟨v,e1,r1⟩:=r.get e
 refine⟨⟨vs,v,st.sh.seq hq,e1⟩, ?_⟩
 rintro x H2 ⟨rfl,y⟩
 have:=y vs (st.sh.seq hq)
 rw [e1] at this
 cases this
 exact⟨G1,Step.refl st.gh,r1.mono st.sg⟩
theorem xT {a:Expr} {f:F} (ha:ML X ad a f):MI X ad tg a f:=by
 intro pins s σ H W I ⟨G,ρ,E,hG,hS,hx,hr⟩
 -- the value, then its iterator
 have key: ∀ (d:D) (ds:List D),items d=some ds->(∀ J G' H',Step G H G' H'->ItH X ad J G' H' ds->W J H')-> ∀ u s1 v H1 G1,Inv X pins σ H1 s1->b9 v u->Step G H G1 H1->Seq X ad G1 H1 d v->wpAny (model X.prog X.w) X.A (pyIter u) (PIE X pins σ tg W) X.xe s1:=by
  intro d ds e hw u s1 v H1 G1 I1 r1 st q
  obtain⟨p,vs,rfl,hq,rq⟩:=q.items st.gh e
  cases (show u=Value.ref p from r1)
  rcases hq with ⟨_,hq⟩ | ⟨_,hq⟩
  ·obtain⟨its,rv,pt,hz⟩:=I1.tuple hq
   refine wpAny_pyIter_tuple (show s1.heap.IsTuple p its.toArray from pt) ?_
   refine⟨s1.heap.objs.size,[s1.heap.objs.size],_,_,H1,rfl,I1.kept (t':=s1.toks) fun b o e=>af _ e,mC p _,⟨_,ag _ rfl,rfl,rfl⟩,fun b hb=> ?_,hw _ G1 H1 st (aGc hq rq st.gh hz)⟩
   have e:b=s1.heap.objs.size:=by simpa using hb
   subst e
   exact I1.fpOk (aj _) (I1.hok.fresh (aj _))
  ·obtain⟨its,rv,pt,hz⟩:=I1.list hq
   refine wpAny_pyIter_list pt.isList ?_
   refine⟨s1.heap.objs.size,[s1.heap.objs.size],_,_,H1,rfl,I1.kept (t':=s1.toks) fun b o e=>af _ e,kJ p _,⟨_,ag _ rfl,rfl,rfl⟩,fun b hb=> ?_,hw _ G1 H1 st (aGd hq rq st.gh hz)⟩
   have e:b=s1.heap.objs.size:=by simpa using hb
   subst e
   exact I1.fpOk (aj _) (I1.hok.fresh (aj _))
 cases e:f ρ with
 | ok d=>
  rw [e] at hr
  obtain⟨ds,e2,hw⟩:=hr
  exact L2.thn (ha pins s σ H (fun v H1=> ∃ G1,Step G H G1 H1/\Seq X ad G1 H1 d v) I ⟨G,ρ,E,hG,hS,hx,by rw [e];exact fun v G1 H1 st q=>⟨G1,st,q⟩⟩) fun u s1 ⟨v,H1,I1,r1,G1,st,q⟩=>key d ds e2 hw u s1 v H1 G1 I1 r1 st q
 | ow l=>
  rw [e] at hr
  exact L2.thn (ha pins s σ H (fun v H1=> ∃ G1,Step G H G1 H1/\Rep X.K ad G1 (.lst l) v) I ⟨G,ρ,E,hG,hS,hx,by rw [e];exact fun p vs G1 H1 st n m e' q=>cW st n m e' q⟩) fun u s1 ⟨v,H1,I1,r1,G1,st,q⟩=>key (.lst l) l rfl hr u s1 v H1 G1 I1 r1 st (.inl q)
 | ex c=>
  rw [e] at hr
  exact L2.thn (ha pins s σ H (fun v H1=>False) I ⟨G,ρ,E,hG,hS,hx,by rw [e];exact hr⟩) fun u s1 ⟨v,H1,I1,r1,q⟩=>q.elim
 | bad=>
  rw [e] at hr
  exact ay hr
theorem aGe {lo:Int} {n:Nat} (hG:Same G H) (few:n<=sizeLine):ItH X ad (Itr lo n) G H ((List.range n).map fun(i:Nat)=>D.int (lo+(i:Int))):=by
 refine⟨fun i G1 H1 d st e=> ?_,fun G1 H1 st=>by simp [Itr],by simpa using few⟩
 rw [List.getElem?_map] at e
 cases q:(List.range n)[i]? with
 | none=>rw [q] at e;cases e
 | some j=>
  rw [q] at e
  obtain⟨hi,hj⟩:=aw.mp q
  rw [List.length_range] at hi
  rw [List.getElem_range] at hj
  subst hj
  cases e
  refine⟨hi, ?_⟩
  rintro x H2 ⟨rfl,rfl⟩
  exact⟨G1,Step.refl st.gh,aY⟩
theorem xU (n:Nat):pQ n=(List.range n).map fun(i:Nat)=>D.int (0+(i:Int)):=by
 unfold pQ
 congr 1
 funext i
 rw [Int.zero_add]
theorem oB {f:F} {k:D->R} {W:It->Hp->Prop} {Q':VK} (hG:Same G H) (hS:SL X.K ad G H ρ σ) (hx:XP X ad σ E) (hr:IK X ad G H ((f ρ).bind k) W E)
  (q: ∀ v d G1 H1,Step G H G1 H1->Rep X.K ad G1 d v->IK X ad G1 H1 (k d) W E->Q' v H1):tE X ad f σ H Q':=by
 have ikst: ∀ {r:R} {G1 H1:Hp},IK X ad G H r W E->Step G H G1 H1->IK X ad G1 H1 r W E:=fun {r G1 H1} h st=>by
  cases r with
  | ok d=>obtain⟨ds,e,h⟩:=h;exact⟨ds,e,fun J G' H' st' hi=>h J G' H' (st.trans st') hi⟩
  | ow l=>exact fun J G' H' st' hi=>h J G' H' (st.trans st') hi
  | ex c=>exact fun G' H' st'=>h G' H' (st.trans st')
  | bad=>exact h
 refine⟨G,ρ,E,hG,hS,hx, ?_⟩
 cases e:f ρ with
 | ok d=>
  rw [e] at hr
  exact fun v G1 H1 st r=>q v d G1 H1 st r (ikst hr st)
 | ow xs=>
  rw [e] at hr
  intro p vs G1 H1 st n m e' r
  obtain⟨G2,st2,r2⟩:=cW (X:=X) (ad:=ad) st n m e' r
  exact q _ _ G2 H1 st2 r2 (ikst hr st2)
 | ex c=>
  rw [e] at hr
  exact hr
 | bad=>
  rw [e] at hr
  exact hr
theorem aBp {a:Expr} {f:F} {p:Pos} (hg:L2.Gl X "range") (hm:X.mg "range"=none) (ha:ME X ad a f) (hs:starEach [a] X.env=(false,eval a X.env)::starEach [] X.env):MI X ad tg (.Call (.Name "range" p) [a] [] pos) (aK f):=by
 intro pins s σ H W I ⟨G,ρ,E,hG,hS,hx,hr⟩
 refine pB (ta:=vK (tE X ad f) aJn) hg hm (dR ha gA hs) hs pins s σ H W I ?_
 show tE X ad f σ H fun v H1=> ∃ j:Int,[v]=[.int j]/\ -(2 ^ 62)<=j/\j<2 ^ 62/\W (Itr 0 j.toNat) H1
 refine oB hG hS hx hr fun v d G1 H1 st r k=> ?_
 cases d<;>try exact ay k
 rename_i i
 unfold Rep at r;subst r
 have k':IK X ad G1 H1 (if -100000<=i/\i<=100000 then .ok (.lst (pQ i.toNat)) else .bad) W E:=k
 by_cases hc: -100000<=i/\i<=100000
 ·rw [if_pos hc] at k'
  obtain⟨ds,e,hw⟩:=k'
  cases e
  refine⟨i,rfl,by omega,by omega,hw _ G1 H1 (Step.refl st.gh) ?_⟩
  rw [xU]
  exact aGe st.gh (by rw [sizeLine_eq];omega)
 ·rw [if_neg hc] at k'
  exact k'.elim
end
structure SS (X:Cx) (ad:Ad) (G₀ G H:Hp) (ρ:Rho) (σ:St):Prop where
 st:Step G₀ X.H₀ G H
 sl:SL X.K ad G H ρ σ
 ow: ∀ (i:Nat) (sl:Slot) (a:Addr),ρ[i]? =some sl->sl.owns=true->σ[i]? =some (some (.ref a))->X.H₀ a=none
 dj: ∀ (i j:Nat) (sl sl':Slot) (a:Addr),ρ[i]? =some sl->ρ[j]? =some sl'->sl.owns=true->sl'.owns=true->σ[i]? =some (some (.ref a))->σ[j]? =some (some (.ref a))->i=j
def OKo (X:Cx) (ad:Ad) (G₀:Hp) (o:Out) (D':Ends) (E:St->Nat->Hp->Prop):Prop:=match o with
 | .nx ρ=> ∀ σ G H,SS X ad G₀ G H ρ σ->D'.nx σ H
 | .bk ρ=> ∀ σ G H,SS X ad G₀ G H ρ σ->D'.bk σ H
 | .ct ρ=> ∀ σ G H,SS X ad G₀ G H ρ σ->D'.ct σ H
 | .ex c ρ=> ∀ σ G H,SS X ad G₀ G H ρ σ->E σ c H
 | .rt (.ok d)=> ∀ v G H,Step G₀ X.H₀ G H->Rep X.K ad G d v->D'.rt v H
 | .rt (.ow xs)=> ∀ p vs G H,Step G₀ X.H₀ G H->X.H₀ p=none->G p=none->H p=some (.lst vs)->aG X.K ad G xs vs->D'.rt (.ref p) H
 | .rt _=>False
def XA (X:Cx) (ad:Ad) (Z:(St->Nat->Hp->Prop)->Prop) (E:St->Nat->Hp->Prop):Prop:=(∀ σ,XP X ad σ (E σ))/\Z E
noncomputable def tS (X:Cx) (ad:Ad) (Z:(St->Nat->Hp->Prop)->Prop) (g:FS):TS:=fun D' σ H=> ∃ G₀ G ρ E,SS X ad G₀ G H ρ σ/\XA X ad Z E/\OKo X ad G₀ (g ρ) D' E
abbrev MS (X:Cx) (ad:Ad) (Z:(St->Nat->Hp->Prop)->Prop) (st:Stmt) (g:FS):Prop:=PS X st (tS X ad Z g)
abbrev MSs (X:Cx) (ad:Ad) (Z:(St->Nat->Hp->Prop)->Prop) (st:List Stmt) (g:FS):Prop:=PSs X st (tS X ad Z g)
section
variable {X:Cx} {ad:Ad} {Z:(St->Nat->Hp->Prop)->Prop} {pins:List (Addr×Obj)} {s:Shared} {σ:St} {H G G₀:Hp} {ρ:Rho} {D':Ends} {E:St->Nat->Hp->Prop} {pos pos':Pos} {e:Expr} {f:F} {g h:FS} {st:Stmt} {sts:List Stmt}
theorem SS.step {G1 H1:Hp} (S:SS X ad G₀ G H ρ σ) (t:Step G H G1 H1):SS X ad G₀ G1 H1 ρ σ:=⟨S.st.trans t,S.sl.step t,S.ow,S.dj⟩
theorem jB {G₀ Gs G H H₀ Hs:Hp} (a:Step G₀ H₀ Gs Hs) (b:Step Gs H₀ G H):Step G₀ H₀ G H:=
 ⟨a.sg.trans b.sg,b.gh,b.sh,fun x h1 h2=>by
  cases q:Gs x with
  | none=>exact b.nw x q h2
  | some o=>exact a.nw x h1 (by rw [q];exact fun z=>nomatch z)⟩
theorem SS.up {Gs Hs:Hp} (a:Step G₀ X.H₀ Gs Hs) (S:SS X ad Gs G H ρ σ):SS X ad G₀ G H ρ σ:=⟨jB a S.st,S.sl,S.ow,S.dj⟩
theorem SS.here (S:SS X ad G₀ G H ρ σ):SS X ad G G H ρ σ:=⟨⟨Same.refl _,S.st.gh,S.st.sh,fun b h1 h2=>absurd h1 h2⟩,S.sl,S.ow,S.dj⟩
theorem OKo.rebase {o:Out} {Gs Hs:Hp} (h:OKo X ad G₀ o D' E) (a:Step G₀ X.H₀ Gs Hs):OKo X ad Gs o D' E:=by
 cases o with
 | nx ρ=>exact fun σ G H S=>h σ G H (S.up a)
 | bk ρ=>exact fun σ G H S=>h σ G H (S.up a)
 | ct ρ=>exact fun σ G H S=>h σ G H (S.up a)
 | ex c ρ=>exact fun σ G H S=>h σ G H (S.up a)
 | rt r=>
  cases r with
  | ok d=>exact fun v G H st q=>h v G H (jB a st) q
  | ow xs=>exact fun p vs G H st n m e q=>h p vs G H (jB a st) n m e q
  | ex c=>exact h
  | bad=>exact h
theorem mQ {k:D->Out} {Q':VK} (S:SS X ad G₀ G H ρ σ) (hx:XA X ad Z E) (hr:OKo X ad G₀ (jZ ρ (f ρ) k) D' E)
  (q: ∀ v d G1 H1,Step G H G1 H1->Rep X.K ad G1 d v->OKo X ad G₀ (k d) D' E->Q' v H1):tE X ad f σ H Q':=by
 refine⟨G,ρ,E σ,S.st.gh,S.sl,hx.1 σ, ?_⟩
 unfold jZ at hr
 cases e:f ρ with
 | ok d=>rw [e] at hr;exact fun v G1 H1 st r=>q v d G1 H1 st r hr
 | ow xs=>
  rw [e] at hr
  intro p vs G1 H1 st n m e' r
  obtain⟨G2,st2,r2⟩:=cW (X:=X) (ad:=ad) st n m e' r
  exact q _ _ G2 H1 st2 r2 hr
 | ex c=>rw [e] at hr;exact fun G1 H1 st=>hr σ G1 H1 (S.step st)
 | bad=>rw [e] at hr;exact hr
theorem aGf:MS X ad Z (.Pass pos) bW:=PS.imp aE7 fun D' σ H ⟨G₀,G,ρ,E,S,hx,hr⟩=>hr σ G H S
theorem aBq:MS X ad Z (.Break pos) aOs:=PS.imp aA3 fun D' σ H ⟨G₀,G,ρ,E,S,hx,hr⟩=>hr σ G H S
theorem sC:MS X ad Z (.Continue pos) aJy:=PS.imp rJ fun D' σ H ⟨G₀,G,ρ,E,S,hx,hr⟩=>hr σ G H S
theorem aGg:MSs X ad Z [] bW:=PSs.imp aE6 fun D' σ H ⟨G₀,G,ρ,E,S,hx,hr⟩=>hr σ G H S
theorem aGh (h1:MS X ad Z st g):MSs X ad Z [st] g:=wQ h1
theorem aBr (h1:MS X ad Z st g) (h2:MSs X ad Z sts h):MSs X ad Z (st::sts) (aU g h):=by
 refine PSs.imp (aA2 h1 h2) ?_
 rintro D' σ H ⟨G₀,G,ρ,E,S,hx,hr⟩
 refine⟨G₀,G,ρ,E,S,hx, ?_⟩
 unfold aU at hr
 cases e:g ρ with
 | nx ρ'=>rw [e] at hr;exact fun σ' G' H' S'=>⟨G₀,G',ρ',E,S',hx,hr⟩
 | bk ρ'=>rw [e] at hr;exact hr
 | ct ρ'=>rw [e] at hr;exact hr
 | ex c ρ'=>rw [e] at hr;exact hr
 | rt r=>
  rw [e] at hr
  cases r<;>exact hr
theorem xV (he:ME X ad e f):MS X ad Z (.Return (some e) pos) (bT f):=by
 refine PS.imp (aDn he) ?_
 rintro D' σ H ⟨G₀,G,ρ,E,S,hx,hr⟩
 refine⟨G,ρ,E σ,S.st.gh,S.sl,hx.1 σ, ?_⟩
 unfold bT at hr
 cases e:f ρ with
 | ok d=>rw [e] at hr;exact fun v G1 H1 st r=>hr v G1 H1 (S.st.trans st) r
 | ow xs=>rw [e] at hr;exact fun p vs G1 H1 st n m e' r=>hr p vs G1 H1 (S.st.trans st) (S.st.sh.free n) m e' r
 | ex c=>rw [e] at hr;exact fun G1 H1 st=>hr σ G1 H1 (S.step st)
 | bad=>rw [e] at hr;exact hr
theorem aGi:MS X ad Z (.Return none pos) aJx:=PS.imp aE8 fun D' σ H ⟨G₀,G,ρ,E,S,hx,hr⟩=>hr .non G H S.st (by unfold Rep;rfl)
theorem aGj {i:Nat} {x:Str} {p:Pos} (hN:X.N[i]? =some x) (hv:Vis X.env.scope x) (hd:(x==("__debug__":Str))=false) (hcd:(x==("__classdict__":Str))=false):MS X ad Z (.Return (some (.Name x p)) pos) (bT (aBd i)):=by
 refine PS.imp (aDn (gT hN hv hd hcd)) ?_
 rintro D' σ H ⟨G₀,G,ρ,E,S,hx,hr⟩
 unfold bT aBd at hr
 cases e:ρ[i]? with
 | none=>rw [e] at hr;exact hr.elim
 | some sl=>
  rw [e] at hr
  cases sl with
  | no=>exact hr.elim
  | dc kvs=>exact hr.elim
  | sd kvs=>exact hr.elim
  | sh d=>
   obtain⟨v,h1,h2⟩:=S.sl.sh e
   exact⟨v,h1,hr v G H S.st h2⟩
  | ow xs=>
   obtain⟨a,vs,h1,h2,h3,h4⟩:=S.sl.ow e
   exact⟨.ref a,h1,hr a vs G H S.st (S.ow i _ a e rfl h1) h2 h3 h4⟩
theorem aGk (he:ME X ad e f) (hs:swapsWith e none pos.line X.env=pure false):MS X ad Z (.Expr e pos) (eQ f):=by
 refine PS.imp (nM he hs) ?_
 rintro D' σ H ⟨G₀,G,ρ,E,S,hx,hr⟩
 exact mQ S hx hr fun v d G1 H1 st r k=>k σ G1 H1 (S.step st)
theorem SS.set {i:Nat} {d:D} {v:V} (S:SS X ad G₀ G H ρ σ) (r:Rep X.K ad G d v):SS X ad G₀ G H (ρ.set i (.sh d)) (σ.set i (some v)):=by
 have key: ∀ (j:Nat) (sl:Slot),(ρ.set i (.sh d))[j]? =some sl->(j=i/\sl= .sh d/\i<ρ.length)\/(j≠i/\ρ[j]? =some sl):=fun j sl e=>by
  by_cases z:j=i
  ·subst z
   have hl:j<ρ.length:=by have:=(aw.mp e).1;rwa [List.length_set] at this
   rw [bh hl] at e
   cases e
   exact .inl ⟨rfl,rfl,hl⟩
  ·rw [az (Ne.symm z)] at e
   exact .inr ⟨z,e⟩
 refine⟨S.st,⟨by rw [List.length_set,List.length_set];exact S.sl.len,fun j sl e=> ?_⟩,fun j xs a e w h=> ?_,fun j j' xs ys a e e' w w' h h'=> ?_⟩
 ·rcases key j sl e with ⟨rfl,rfl,hl⟩ | ⟨z,e⟩
  ·exact⟨some v,bh (by rw [<-S.sl.len];exact hl),v,rfl,r⟩
  ·obtain⟨ov,h1,h2⟩:=S.sl.at_ j sl e
   exact⟨ov,by rw [az (Ne.symm z)];exact h1,h2⟩
 ·rcases key j _ e with ⟨_,z,_⟩ | ⟨z,e⟩
  ·subst z;exact(bd w).elim
  ·rw [az (Ne.symm z)] at h
   exact S.ow j xs a e w h
 ·rcases key j _ e with ⟨_,z,_⟩ | ⟨z,e⟩
  ·subst z;exact(bd w).elim
  ·rcases key j' _ e' with ⟨_,z',_⟩ | ⟨z',e'⟩
   ·subst z';exact(bd w').elim
   ·rw [az (Ne.symm z)] at h
    rw [az (Ne.symm z')] at h'
    exact S.dj j j' xs ys a e e' w w' h h'
theorem SL.own_at {K:PySem.W.Frag} {j:Nat} {sl:Slot} {p:Addr} (h:SL K ad G H ρ σ) (e:ρ[j]? =some sl) (w:sl.owns=true) (hj:σ[j]? =some (some (.ref p))):G p=none/\H p≠none:=by
 obtain⟨ov,h1,h2⟩:=h.at_ j sl e
 rw [hj] at h1
 cases h1
 cases sl with
 | no=>exact(bd w).elim
 | sh d=>exact(bd w).elim
 | sd d=>exact(bd w).elim
 | ow xs=>obtain⟨a,vs,k1,k2,k3,_⟩:=h2;cases k1;exact⟨k2,by rw [k3];exact fun z=>nomatch z⟩
 | dc xs=>obtain⟨a,vs,k1,k2,k3,_⟩:=h2;cases k1;exact⟨k2,by rw [k3];exact fun z=>nomatch z⟩
theorem SS.setNew {i:Nat} {sn:Slot} {p:Addr} {G1 H1:Hp} (S:SS X ad G₀ G H ρ σ) (st:Step G H G1 H1) (n:H p=none) (r:SLi X.K ad G1 H1 sn (some (.ref p))):
  SS X ad G₀ G1 H1 (ρ.set i sn) (σ.set i (some (.ref p))):=by
 have S1:=S.step st
 have key: ∀ (j:Nat) (sl:Slot),(ρ.set i sn)[j]? =some sl->(j=i/\sl=sn/\i<ρ.length)\/(j≠i/\ρ[j]? =some sl):=fun j sl e=>by
  by_cases z:j=i
  ·subst z
   have hl:j<ρ.length:=by have:=(aw.mp e).1;rwa [List.length_set] at this
   rw [bh hl] at e
   cases e
   exact .inl ⟨rfl,rfl,hl⟩
  ·rw [az (Ne.symm z)] at e
   exact .inr ⟨z,e⟩
 -- no other slot holds the new list
 have other: ∀ (j:Nat) (sl:Slot),ρ[j]? =some sl->sl.owns=true->σ[j]? ≠some (some (.ref p)):=fun j sl ej w hj=>(S.sl.own_at ej w hj).2 n
 refine⟨S1.st,⟨by rw [List.length_set,List.length_set];exact S.sl.len,fun j sl e'=> ?_⟩,fun j ys a e' w h=> ?_,fun j j' ys zs a e1 e2 w1 w2 h1 h2=> ?_⟩
 ·rcases key j sl e' with ⟨q1,q2,hl⟩ | ⟨z,e'⟩
  ·rw [q1,q2]
   exact⟨some (.ref p),bh (by rw [<-S.sl.len];exact hl),r⟩
  ·obtain⟨ov,h1,h2⟩:=S1.sl.at_ j sl e'
   exact⟨ov,by rw [az (Ne.symm z)];exact h1,h2⟩
 ·rcases key j _ e' with ⟨q1,_,hl⟩ | ⟨z,e'⟩
  ·rw [q1,bh (by rw [<-S.sl.len];exact hl)] at h
   cases h
   exact S.st.sh.free n
  ·rw [az (Ne.symm z)] at h
   exact S.ow j ys a e' w h
 ·rcases key j _ e1 with ⟨q1,_,hl⟩ | ⟨z,f1⟩
  ·rcases key j' _ e2 with ⟨q2,_,_⟩ | ⟨z',f2⟩
   ·rw [q1,q2]
   ·rw [q1,bh (by rw [<-S.sl.len];exact hl)] at h1
    cases h1
    rw [az (Ne.symm z')] at h2
    exact absurd h2 (other j' zs f2 w2)
  ·rcases key j' _ e2 with ⟨q2,_,hl⟩ | ⟨z',f2⟩
   ·rw [q2,bh (by rw [<-S.sl.len];exact hl)] at h2
    cases h2
    rw [az (Ne.symm z)] at h1
    exact absurd h1 (other j ys f1 w1)
   ·rw [az (Ne.symm z)] at h1
    rw [az (Ne.symm z')] at h2
    exact S.dj j j' ys zs a f1 f2 w1 w2 h1 h2
theorem SS.setOw {i:Nat} {xs:List D} {p:Addr} {vs:List V} {G1 H1:Hp} (S:SS X ad G₀ G H ρ σ) (st:Step G H G1 H1) (n:H p=none) (m:G1 p=none) (e:H1 p=some (.lst vs)) (r:aG X.K ad G1 xs vs):
  SS X ad G₀ G1 H1 (ρ.set i (.ow xs)) (σ.set i (some (.ref p))):=S.setNew st n ⟨p,vs,rfl,m,e,r⟩
theorem aKl {i:Nat} (S:SS X ad G₀ G H ρ σ) (hx:XA X ad Z E) (hr:OKo X ad G₀ (jP i f ρ) D' E):tE X ad f σ H fun v H1=>D'.nx (σ.set i (some v)) H1:=by
 refine⟨G,ρ,E σ,S.st.gh,S.sl,hx.1 σ, ?_⟩
 unfold jP at hr
 cases e:f ρ with
 | ok d=>rw [e] at hr;exact fun v G1 H1 st r=>hr _ G1 H1 ((S.step st).set r)
 | ow xs=>rw [e] at hr;exact fun p vs G1 H1 st n m e' r=>hr _ G1 H1 (S.setOw st n m e' r)
 | ex c=>rw [e] at hr;exact fun G1 H1 st=>hr σ G1 H1 (S.step st)
 | bad=>rw [e] at hr;exact hr
theorem aNl {c:Expr} {a b:List Stmt} (hc:MT X ad c f) (ha:MSs X ad Z a g) (hb:MSs X ad Z b h):MS X ad Z (.If c a b pos) (sIf f g h):=by
 refine PS.imp (aMq hc ha hb) ?_
 rintro D' σ H ⟨G₀,G,ρ,E,S,hx,hr⟩
 unfold sIf at hr
 cases e:f ρ with
 | ok d=>
  rw [e] at hr
  cases d<;>try exact hr.elim
  rename_i k
  refine⟨G,ρ,E σ,S.st.gh,S.sl,hx.1 σ, .inl ⟨k,e⟩, ?_⟩
  rw [e]
  intro v G1 H1 st r
  unfold Rep at r;subst r
  refine⟨k,rfl, ?_⟩
  cases k with
  | true=>exact aBb ⟨G₀,G1,ρ,E,S.step st,hx,hr⟩
  | false=>exact aDt ⟨G₀,G1,ρ,E,S.step st,hx,hr⟩
 | ow xs=>rw [e] at hr;exact hr.elim
 | ex k=>
  rw [e] at hr
  refine⟨G,ρ,E σ,S.st.gh,S.sl,hx.1 σ, .inr ⟨k,e⟩, ?_⟩
  rw [e]
  exact fun G1 H1 st=>hr σ G1 H1 (S.step st)
 | bad=>rw [e] at hr;exact hr.elim
theorem SS.shareG {i:Nat} {sl₀ sn:Slot} {a:Addr} {o:HO} (S:SS X ad G₀ G H ρ σ) (e:ρ[i]? =some sl₀) (w₀:sl₀.owns=true) (h1:σ[i]? =some (some (.ref a))) (h3:H a=some o) (hst:Step G₀ X.H₀ (upd G a o) H) (wn:sn.owns=false)
  (r:SLi X.K ad (upd G a o) H sn (some (.ref a))):SS X ad G₀ (upd G a o) H (ρ.set i sn) σ:=by
 have h2:G a=none:=(S.sl.own_at e w₀ h1).1
 have le:Same G (upd G a o):=Same.upd_new h2
 have hl:i<ρ.length:=(aw.mp e).1
 have key: ∀ (j:Nat) (sl:Slot),(ρ.set i sn)[j]? =some sl->(j=i/\sl=sn)\/(j≠i/\ρ[j]? =some sl):=fun j sl e=>by
  by_cases z:j=i
  ·subst z
   rw [bh hl] at e
   cases e
   exact .inl ⟨rfl,rfl⟩
  ·rw [az (Ne.symm z)] at e
   exact .inr ⟨z,e⟩
 refine⟨hst,⟨by show(ρ.set i _).length=_;rw [List.length_set];exact S.sl.len,fun j sl e'=> ?_⟩,fun j ys b e' w h=> ?_,fun j j' ys zs b e1 e2 w1 w2 k1 k2=> ?_⟩
 ·rcases key j sl e' with ⟨q1,q2⟩ | ⟨z,e'⟩
  ·rw [q1,q2]
   exact⟨some (.ref a),h1,r⟩
  ·obtain⟨ov,k1,k2⟩:=S.sl.at_ j sl e'
   refine⟨ov,k1, ?_⟩
   cases sl with
   | no=>trivial
   | sh d=>obtain⟨v,k3,k4⟩:=k2;exact⟨v,k3,k4.mono le⟩
   | ow ys=>
    obtain⟨b,ws,k3,k4,k5,k6⟩:=k2
    have ne:b≠a:=fun q=>by
     subst q
     subst k3
     exact z (S.dj j i _ _ b e' e rfl w₀ k1 h1)
    exact⟨b,ws,k3,by rw [aM ne];exact k4,k5,k6.mono le⟩
   | dc ys=>
    obtain⟨b,ws,k3,k4,k5,k6,k7⟩:=k2
    have ne:b≠a:=fun q=>by
     subst q
     subst k3
     exact z (S.dj j i _ _ b e' e rfl w₀ k1 h1)
    exact⟨b,ws,k3,by rw [aM ne];exact k4,k5,k6.mono le,k7⟩
   | sd ys=>
    obtain⟨b,ws,k3,k4,k5,k6,k7⟩:=k2
    exact⟨b,ws,k3,le _ _ k4,k5,k6.mono le,k7⟩
 ·rcases key j _ e' with ⟨_,z⟩ | ⟨z,e'⟩
  ·rw [z,wn] at w;exact(bd w).elim
  ·exact S.ow j ys b e' w h
 ·rcases key j _ e1 with ⟨_,z⟩ | ⟨z,e1⟩
  ·rw [z,wn] at w1;exact(bd w1).elim
  ·rcases key j' _ e2 with ⟨_,z'⟩ | ⟨z',e2⟩
   ·rw [z',wn] at w2;exact(bd w2).elim
   ·exact S.dj j j' ys zs b e1 e2 w1 w2 k1 k2
theorem SS.frz1 {i:Nat} (S:SS X ad G₀ G H ρ σ): ∃ G',SS X ad G₀ G' H (SK.frz1 i ρ) σ/\Same G G':=by
 unfold SK.frz1
 cases e:ρ[i]? with
 | none=>exact⟨G,S,Same.refl _⟩
 | some sl=>
  cases sl with
  | no=>exact⟨G,S,Same.refl _⟩
  | sd d=>exact⟨G,S,Same.refl _⟩
  | sh d=>exact⟨G,S,Same.refl _⟩
  | dc kvs=>
   obtain⟨a,es,h1,h2,h3,h4,h5⟩:=S.sl.dc e
   have le:Same G (upd G a (dcO a es)):=Same.upd_new h2
   exact⟨_,S.shareG e rfl h1 h3 (S.st.shareO (S.ow i _ a e rfl h1) h2 h3) rfl ⟨a,es,rfl,a9,h3,h4.mono le,h5⟩,le⟩
  | ow xs=>
   obtain⟨a,vs,h1,h2,h3,h4⟩:=S.sl.ow e
   have le:Same G (upd G a (.lst vs)):=Same.upd_new h2
   exact⟨_,S.shareG e rfl h1 h3 (S.st.share (S.ow i _ a e rfl h1) h2 h3) rfl ⟨.ref a,rfl,by unfold Rep;exact⟨a,vs,rfl,SqL.of a9,h4.mono le⟩⟩,le⟩
theorem SS.frz {is:List Nat}: ∀ {ρ:Rho} {G:Hp},SS X ad G₀ G H ρ σ-> ∃ G',SS X ad G₀ G' H (SK.frz is ρ) σ/\Same G G':=by
 induction is with
 | nil=>intro ρ G S;exact⟨G,S,Same.refl _⟩
 | cons i is ih=>
  intro ρ G S
  obtain⟨G1,S1,l1⟩:=S.frz1 (i:=i)
  obtain⟨G2,S2,l2⟩:=ih S1
  exact⟨G2,S2,l1.trans l2⟩
theorem iN {is:List Nat} (h1:MS X ad Z st g):MS X ad Z st (eR is g):=by
 cases is with
 | nil=>exact h1
 | cons i is=>
  refine PS.imp h1 ?_
  rintro D' σ H ⟨G₀,G,ρ,E,S,hx,hr⟩
  obtain⟨G',S',_⟩:=S.frz (is:=i::is)
  exact⟨G₀,G',_,E,S',hx,hr⟩
end
section
variable {X:Cx} {ad:Ad} {Z:(St->Nat->Hp->Prop)->Prop} {pins:List (Addr×Obj)} {s:Shared} {σ:St} {H G G₀:Hp} {ρ:Rho} {D':Ends} {E:St->Nat->Hp->Prop} {pos pos':Pos} {e:Expr} {f:F} {g h:FS} {st:Stmt} {sts:List Stmt}
theorem SS.updG {i:Nat} {sl₀ sn:Slot} {a:Addr} {o:HO} (S:SS X ad G₀ G H ρ σ) (e:ρ[i]? =some sl₀) (w₀:sl₀.owns=true) (h1:σ[i]? =some (some (.ref a))) (r:SLi X.K ad G (upd H a o) sn (some (.ref a))):SS X ad G₀ G (upd H a o) (ρ.set i sn) σ:=by
 have n0:X.H₀ a=none:=S.ow i sl₀ a e w₀ h1
 have h2:G a=none:=(S.sl.own_at e w₀ h1).1
 have hl:i<ρ.length:=(aw.mp e).1
 have key: ∀ (j:Nat) (sl:Slot),(ρ.set i sn)[j]? =some sl->(j=i/\sl=sn)\/(j≠i/\ρ[j]? =some sl):=fun j sl e=>by
  by_cases z:j=i
  ·subst z
   rw [bh hl] at e
   cases e
   exact .inl ⟨rfl,rfl⟩
  ·rw [az (Ne.symm z)] at e
   exact .inr ⟨z,e⟩
 refine⟨pZ S.st n0 h2,⟨by rw [List.length_set];exact S.sl.len,fun j sl e'=> ?_⟩,fun j zs b e' w h=> ?_,fun j j' zs zs' b e1 e2 w1 w2 k1 k2=> ?_⟩
 ·rcases key j sl e' with ⟨q1,q2⟩ | ⟨z,f1⟩
  ·rw [q1,q2]
   exact⟨some (.ref a),h1,r⟩
  ·obtain⟨ov,k1,k2⟩:=S.sl.at_ j sl f1
   refine⟨ov,k1, ?_⟩
   cases sl with
   | no=>trivial
   | sh d=>exact k2
   | ow zs=>
    obtain⟨b,vs',k3,k4,k5,k6⟩:=k2
    have ne:b≠a:=fun q=>by
     subst q
     subst k3
     exact z (S.dj j i _ _ b f1 e rfl w₀ k1 h1)
    exact⟨b,vs',k3,k4,by rw [aM ne];exact k5,k6⟩
   | dc zs=>
    obtain⟨b,vs',k3,k4,k5,k6⟩:=k2
    have ne:b≠a:=fun q=>by
     subst q
     subst k3
     exact z (S.dj j i _ _ b f1 e rfl w₀ k1 h1)
    exact⟨b,vs',k3,k4,by rw [aM ne];exact k5,k6⟩
   | sd zs=>
    obtain⟨b,vs',k3,k4,k5,k6⟩:=k2
    have ne:b≠a:=fun q=>by
     rw [q] at k4
     rw [h2] at k4
     cases k4
    exact⟨b,vs',k3,k4,by rw [aM ne];exact k5,k6⟩
 ·rcases key j _ e' with ⟨q1,q2⟩ | ⟨z,f1⟩
  ·rw [q1,h1] at h
   cases h
   exact n0
  ·exact S.ow j zs b f1 w h
 ·rcases key j _ e1 with ⟨q1,_⟩ | ⟨z,f1⟩
  ·rcases key j' _ e2 with ⟨q2,_⟩ | ⟨z',f2⟩
   ·rw [q1,q2]
   ·rw [q1] at k1 ⊢
    exact S.dj i j' _ zs' b e f2 w₀ w2 k1 k2
  ·rcases key j' _ e2 with ⟨q2,_⟩ | ⟨z',f2⟩
   ·rw [q2] at k2 ⊢
    exact S.dj j i zs _ b f1 e w1 w₀ k1 k2
   ·exact S.dj j j' zs zs' b f1 f2 w1 w2 k1 k2
theorem SS.upd {i:Nat} {xs ys:List D} {a:Addr} {ws:List V} (S:SS X ad G₀ G H ρ σ) (e:ρ[i]? =some (.ow xs)) (h1:σ[i]? =some (some (.ref a))) (h2:G a=none) (r:aG X.K ad G ys ws):SS X ad G₀ G (L2.upd H a (.lst ws)) (ρ.set i (.ow ys)) σ:=
 S.updG e rfl h1 ⟨a,ws,rfl,h2,a9,r⟩
theorem j8 {cpos:Pos} (hs:starEach [e] X.env=(false,eval e X.env)::starEach [] X.env):((backTo cpos (starEach [e] X.env)).all (fun x=> !x.1)&&(backToKw cpos (keywordEach [] X.env)).all (fun x=>x.1.isSome)
   &&decide ([e].length+([]:List Keyword).length+(if([]:List Keyword).isEmpty then 0 else 1)<30))=true:=by
 rw [hs]
 rfl
theorem aKm {i:Nat} {x:Str} {p ap cp:Pos} (hN:X.N[i]? =some x) (hv:Vis X.env.scope x) (hd:(x==("__debug__":Str))=false) (hcd:(x==("__classdict__":Str))=false) (he:ME X ad e f) (hs:starEach [e] X.env=(false,eval e X.env)::starEach [] X.env)
  (hline:(ap.endLine==cp.line)=true):MS X ad Z (.Expr (.Call (.Attribute (.Name x p) "append" ap) [e] [] cp) pos) (aDx i f):=by
 refine PS.imp (nM (aFg (T:="list") PySem.F.plainAttrs_list PySem.F.slot_list_append PySem.F.type_list_append pL (gT hN hv hd hcd) (dR he gA hs) rfl (j8 hs) hline hs rfl) rfl) ?_
 rintro D' σ H ⟨G₀,G,ρ,E,S,hx,hr⟩
 unfold aDx at hr
 cases q:ρ[i]? with
 | none=>rw [q] at hr;exact hr.elim
 | some sl=>
  rw [q] at hr
  cases sl with
  | no=>exact hr.elim
  | sh d=>exact hr.elim
  | dc d=>exact hr.elim
  | sd d=>exact hr.elim
  | ow xs=>
   obtain⟨a,vs,h1,h2,h3,h4⟩:=S.sl.ow q
   refine⟨.ref a,h1, .inl ⟨rfl,vs,SqL.of h3⟩, ?_⟩
   refine mQ S hx hr fun v d G1 H1 st r k=> ?_
   obtain⟨g1,h1'⟩:=eM st h2 h3
   have k':OKo X ad G₀ (if xs.length<LIM then .nx (ρ.set i (.ow (xs++[d]))) else .rt .bad) D' E:=k
   by_cases hc:xs.length<LIM
   ·rw [if_pos hc] at k'
    have r4:=h4.mono st.sg
    refine⟨a,vs,v,rfl,rfl,h1', ?_,k' σ G1 _ ((S.step st).upd q h1 g1 (r4.append (aG.cons r aG.nil)))⟩
    rw [h4.length]
    exact bf hc (by decide)
   ·rw [if_neg hc] at k'
    exact k'.elim
noncomputable def aOz (K:PySem.W.Frag):V->List V->Hp->VK->Prop:=fun x vs H Q=> ∃ l b xs zs,x= .ref l/\vs=[.ref b]/\H l=some (.lst xs)/\SqL K H b zs/\xs.length+zs.length<=sizeLine/\Q .non (upd H l (.lst (xs++zs)))
theorem aEc:MtM X "list.extend" (aOz X.K):=by
 intro pins s σ H x vs v us Q I rx rv h
 obtain⟨l,b,xs,zs,rfl,rfl,hH,hB,hz,q⟩:=h
 cases rx
 obtain⟨u,rfl,ru⟩:=rv.one
 cases ru
 obtain⟨z,its,n,r,hl,e⟩:=I.lstM hH
 obtain⟨its2,r2,⟨⟨cls2,dd2,data2,sl2⟩,n2,e2,hc2,hdd2,hd2⟩,_⟩:=I.list hB
 simp only at hc2 hd2 hdd2
 subst hc2 hd2
 have hl2:=r2.length
 have hsz:its.toArray.size+its2.toArray.size<=sizeLine:=by rw [av,av];omega
 have hlong: ¬ (!its.toArray.isEmpty&&Builtin.List.listTooLong (its.toArray.size+its2.toArray.size))=true:=by
  rw [tG hsz,Bool.and_false]
  exact bd
 refine call_meets F.slot_list_extend ⟨_,e,rfl⟩ F.entry_list_extend (F.args_list_extend_2 _ _)
  (pN l its.toArray n b its2.toArray n2 dd2 sl2 hlong (by rw [av];omega) (by omega)) ⟨e,e2, ?_⟩
 refine⟨.non,_,I.lset (its':=its++its2) hH e (by simp) (r.append r2) ?_,rfl,q⟩
 rw [bn]
 omega
theorem aKn {i:Nat} {x:Str} {p ap cp:Pos} (hN:X.N[i]? =some x) (hv:Vis X.env.scope x) (hd:(x==("__debug__":Str))=false) (hcd:(x==("__classdict__":Str))=false) (he:ME X ad e f) (hs:starEach [e] X.env=(false,eval e X.env)::starEach [] X.env)
  (hline:(ap.endLine==cp.line)=true):MS X ad Z (.Expr (.Call (.Attribute (.Name x p) "extend" ap) [e] [] cp) pos) (gC i f):=by
 refine PS.imp (nM (aFg (T:="list") PySem.F.plainAttrs_list PySem.F.slot_list_extend PySem.F.type_list_extend aEc (gT hN hv hd hcd) (dR he gA hs) rfl (j8 hs) hline hs rfl) rfl) ?_
 rintro D' σ H ⟨G₀,G,ρ,E,S,hx,hr⟩
 unfold gC at hr
 cases q:ρ[i]? with
 | none=>rw [q] at hr;exact hr.elim
 | some sl=>
  rw [q] at hr
  cases sl with
  | no=>exact hr.elim
  | sh d=>exact hr.elim
  | dc d=>exact hr.elim
  | sd d=>exact hr.elim
  | ow xs=>
   obtain⟨a,vs,h1,h2,h3,h4⟩:=S.sl.ow q
   refine⟨.ref a,h1, .inl ⟨rfl,vs,SqL.of h3⟩, ?_⟩
   refine mQ S hx hr fun v d G1 H1 st r k=> ?_
   obtain⟨g1,h1'⟩:=eM st h2 h3
   cases d<;>try exact ay k
   rename_i ys
   have k':OKo X ad G₀ (if xs.length+ys.length<=LIM then .nx (ρ.set i (.ow (xs++ys))) else .rt .bad) D' E:=k
   by_cases hc:xs.length+ys.length<=LIM
   ·rw [if_pos hc] at k'
    have r4:=h4.mono st.sg
    unfold Rep at r
    obtain⟨b,ws,rfl,hq,rq⟩:=r
    refine⟨a,b,vs,ws,rfl,rfl,h1',st.gh.seq hq, ?_,k' σ G1 _ ((S.step st).upd q h1 g1 (r4.append rq))⟩
    rw [h4.length,rq.length]
    exact Nat.le_trans hc (by decide)
   ·rw [if_neg hc] at k'
    exact k'.elim
structure ItG (X:Cx) (ad:Ad) (J:It) (G:Hp) (ds:List D):Prop where
 go: ∀ (i:Nat) (G1 H1:Hp) (d:D),Same G G1->Same G1 H1->ds[i]? =some d->J.go i H1/\ ∀ x H2,J.yld i H1 x H2-> ∃ G2,Step G1 H1 G2 H2/\Rep X.K ad G2 d x
 stop: ∀ (G1 H1:Hp),Same G G1->Same G1 H1->J.stop ds.length H1
def IGK (X:Cx) (ad:Ad) (G H:Hp) (r:R) (W:It->Hp->Prop) (E:Nat->Hp->Prop):Prop:=match r with
 | .ok d=> ∃ ds,items d=some ds/\ ∀ J G' H',Step G H G' H'->ItG X ad J G' ds->W J H'
 | .ow xs=> ∀ J G' H',Step G H G' H'->ItG X ad J G' xs->W J H'
 | .ex c=> ∀ G' H',Step G H G' H'->E c H'
 | .bad=>False
noncomputable def tIG (X:Cx) (ad:Ad) (f:F):TI:=fun σ H W=> ∃ G ρ E,Same G H/\SL X.K ad G H ρ σ/\XP X ad σ E/\IGK X ad G H (f ρ) W E
abbrev MIG (X:Cx) (ad:Ad) (tg e:Expr) (f:F):Prop:=PI X tg e (tIG X ad f)
theorem aGl {a:Addr} {vs:List V} {ds:List D} (hq:SqT X.K G a vs) (r:aG X.K ad G ds vs):ItG X ad (Itt X.K a) G ds:=by
 refine⟨fun i G1 H1 d s1 s2 e=> ?_,fun G1 H1 s1 s2=>⟨vs,s2.seqT (s1.seqT hq),by rw [r.length];exact aj _⟩⟩
 obtain⟨v,e1,r1⟩:=r.get e
 refine⟨⟨vs,v,s2.seqT (s1.seqT hq),e1⟩, ?_⟩
 rintro x H2 ⟨rfl,y⟩
 have:=y vs (s2.seqT (s1.seqT hq))
 rw [e1] at this
 cases this
 exact⟨G1,Step.refl s2,r1.mono s1⟩
theorem aGm {a:Addr} {vs:List V} {ds:List D} (hq:SqL X.K G a vs) (r:aG X.K ad G ds vs):ItG X ad (Itl X.K a) G ds:=by
 refine⟨fun i G1 H1 d s1 s2 e=> ?_,fun G1 H1 s1 s2=>⟨vs,s2.seq (s1.seq hq),by rw [r.length];exact aj _⟩⟩
 obtain⟨v,e1,r1⟩:=r.get e
 refine⟨⟨vs,v,s2.seq (s1.seq hq),e1⟩, ?_⟩
 rintro x H2 ⟨rfl,y⟩
 have:=y vs (s2.seq (s1.seq hq))
 rw [e1] at this
 cases this
 exact⟨G1,Step.refl s2,r1.mono s1⟩
theorem aGn {lo:Int} {n:Nat}:ItG X ad (Itr lo n) G ((List.range n).map fun(i:Nat)=>D.int (lo+(i:Int))):=by
 refine⟨fun i G1 H1 d s1 s2 e=> ?_,fun G1 H1 s1 s2=>by simp [Itr]⟩
 rw [List.getElem?_map] at e
 cases q:(List.range n)[i]? with
 | none=>rw [q] at e;cases e
 | some j=>
  rw [q] at e
  obtain⟨hi,hj⟩:=aw.mp q
  rw [List.length_range] at hi
  rw [List.getElem_range] at hj
  subst hj
  cases e
  refine⟨hi, ?_⟩
  rintro x H2 ⟨rfl,rfl⟩
  exact⟨G1,Step.refl s2,aY⟩
theorem oC {tg a:Expr} {f:F} (ha:ME X ad a f):MIG X ad tg a f:=by
 intro pins s σ H W I ⟨G,ρ,E,hG,hS,hx,hr⟩
 have key: ∀ (d:D) (ds:List D),items d=some ds->(∀ J G' H',Step G H G' H'->ItG X ad J G' ds->W J H')-> ∀ u s1 v H1 G1,Inv X pins σ H1 s1->b9 v u->Step G H G1 H1->Rep X.K ad G1 d v->wpAny (model X.prog X.w) X.A (pyIter u) (PIE X pins σ tg W) X.xe s1:=by
  intro d ds e hw u s1 v H1 G1 I1 r1 st q
  obtain⟨p,vs,rfl,hq,rq⟩:=kT e q
  cases (show u=Value.ref p from r1)
  rcases hq with hq | hq
  ·obtain⟨its,rv,pt,hz⟩:=I1.tuple (st.gh.seqT hq)
   refine wpAny_pyIter_tuple (show s1.heap.IsTuple p its.toArray from pt) ?_
   refine⟨s1.heap.objs.size,[s1.heap.objs.size],_,_,H1,rfl,I1.kept (t':=s1.toks) fun b o e=>af _ e,mC p _,⟨_,ag _ rfl,rfl,rfl⟩,fun b hb=> ?_,hw _ G1 H1 st (aGl hq rq)⟩
   have e:b=s1.heap.objs.size:=by simpa using hb
   subst e
   exact I1.fpOk (aj _) (I1.hok.fresh (aj _))
  ·obtain⟨its,rv,pt,hz⟩:=I1.list (st.gh.seq hq)
   refine wpAny_pyIter_list pt.isList ?_
   refine⟨s1.heap.objs.size,[s1.heap.objs.size],_,_,H1,rfl,I1.kept (t':=s1.toks) fun b o e=>af _ e,kJ p _,⟨_,ag _ rfl,rfl,rfl⟩,fun b hb=> ?_,hw _ G1 H1 st (aGm hq rq)⟩
   have e:b=s1.heap.objs.size:=by simpa using hb
   subst e
   exact I1.fpOk (aj _) (I1.hok.fresh (aj _))
 cases e:f ρ with
 | ok d=>
  rw [e] at hr
  obtain⟨ds,e2,hw⟩:=hr
  exact L2.thn (ha pins s σ H (fun v H1=> ∃ G1,Step G H G1 H1/\Rep X.K ad G1 d v) I ⟨G,ρ,E,hG,hS,hx,by rw [e];exact fun v G1 H1 st q=>⟨G1,st,q⟩⟩) fun u s1 ⟨v,H1,I1,r1,G1,st,q⟩=>key d ds e2 hw u s1 v H1 G1 I1 r1 st q
 | ow l=>
  rw [e] at hr
  exact L2.thn (ha pins s σ H (fun v H1=> ∃ G1,Step G H G1 H1/\Rep X.K ad G1 (.lst l) v) I ⟨G,ρ,E,hG,hS,hx,by rw [e];exact fun p vs G1 H1 st n m e' q=>cW st n m e' q⟩) fun u s1 ⟨v,H1,I1,r1,G1,st,q⟩=>key (.lst l) l rfl hr u s1 v H1 G1 I1 r1 st q
 | ex c=>
  rw [e] at hr
  exact L2.thn (ha pins s σ H (fun v H1=>False) I ⟨G,ρ,E,hG,hS,hx,by rw [e];exact hr⟩) fun u s1 ⟨v,H1,I1,r1,q⟩=>q.elim
 | bad=>
  rw [e] at hr
  exact ay hr
theorem xW {tg a:Expr} {f:F} {p:Pos} (hg:L2.Gl X "range") (hm:X.mg "range"=none) (ha:ME X ad a f) (hs:starEach [a] X.env=(false,eval a X.env)::starEach [] X.env):MIG X ad tg (.Call (.Name "range" p) [a] [] pos) (aK f):=by
 intro pins s σ H W I ⟨G,ρ,E,hG,hS,hx,hr⟩
 refine pB (ta:=vK (tE X ad f) aJn) hg hm (dR ha gA hs) hs pins s σ H W I ?_
 show tE X ad f σ H fun v H1=> ∃ j:Int,[v]=[.int j]/\ -(2 ^ 62)<=j/\j<2 ^ 62/\W (Itr 0 j.toNat) H1
 refine⟨G,ρ,E,hG,hS,hx, ?_⟩
 unfold aK at hr
 cases e:f ρ with
 | ok d=>
  rw [e] at hr
  cases d<;>try exact ay hr
  rename_i i
  have k':IGK X ad G H (if -100000<=i/\i<=100000 then .ok (.lst (pQ i.toNat)) else .bad) W E:=hr
  by_cases hc: -100000<=i/\i<=100000
  ·rw [if_pos hc] at k'
   obtain⟨ds,e,hw⟩:=k'
   cases e
   intro v G1 H1 st r
   unfold Rep at r;subst r
   refine⟨i,rfl,by omega,by omega,hw _ G1 H1 st ?_⟩
   rw [xU]
   exact aGn
  ·rw [if_neg hc] at k'
   exact k'.elim
 | ow l=>rw [e] at hr;exact ay hr
 | ex c=>rw [e] at hr;exact hr
 | bad=>rw [e] at hr;exact hr
end
noncomputable def gIs:List Nat->TGs
 | []=>aMs
 | i::is=>aE9 (kH i) (gIs is)
noncomputable def aBs:List Nat->List V->St->St
 | i::is,v::vs,σ=>aBs is vs (σ.set i (some v))
 | _,_,σ=>σ
theorem aEd: ∀ {is:List Nat} {vs:List V} {σ:St} {H:Hp} {Q:St->Hp->Prop},vs.length=is.length->Q (aBs is vs σ) H->gIs is vs σ H Q
 | [],[],_,_,_,_,h=>⟨rfl,h⟩
 | i::is,v::vs,σ,H,Q,e,h=>⟨v,vs,rfl,aEd (is:=is) (vs:=vs) (by simpa using e) h⟩
 | [],_::_,_,_,_,e,_=>by simp at e
 | _::_,[],_,_,_,e,_=>by simp at e
noncomputable def gTs (K:PySem.W.Frag) (k:Nat) (is:List Nat):TG:=match k,is with
 | 0,[i]=>kH i
 | k,is=>aI6 K is.length (gIs is)
def aIm (X:Cx) (x:Str) (i:Nat):Prop:=X.N[i]? =some x/\Loc X.env.scope x/\(X.fn x=true\/X.env.scope.names.lookup x=some .local)
inductive NmsOk (X:Cx):List Str->List Nat->Prop
 | nil:NmsOk X [] []
 | cons {x:Str} {i:Nat} {xs:List Str} {is:List Nat}:aIm X x i->NmsOk X xs is->NmsOk X (x::xs) (i::is)
section
variable {X:Cx} {ad:Ad} {Z:(St->Nat->Hp->Prop)->Prop} {pins:List (Addr×Obj)} {s:Shared} {σ:St} {H G G₀:Hp} {ρ:Rho} {D':Ends} {E:St->Nat->Hp->Prop} {pos pos':Pos} {e it tg:Expr} {f:F} {g h:FS} {st:Stmt} {body:List Stmt}
theorem NmsOk.len: ∀ {xs:List Str} {is:List Nat},NmsOk X xs is->is.length=xs.length
 | _,_, .nil=>rfl
 | _,_, .cons _ h=>by simp [NmsOk.len h]
theorem aEe (hN:X.N.Nodup): ∀ {es:List Expr} {xs:List Str} {is:List Nat},iM (fun(e:Expr)=>match e with | .Name x _=>some x | _=>none) es=some xs->NmsOk X xs is->PGs X es (gIs is)
 | [],xs,is,e,h=>by
  cases e
  cases h
  exact wR
 | a::es,xs,is,e,h=>by
  unfold iM at e
  cases a<;>try (cases e)
  rename_i x px
  simp only at e
  obtain⟨r,e1,e2⟩:=zMd e
  subst e2
  cases h with
  | cons h1 h2=>exact sV (i7 hN h1.1 h1.2.1 h1.2.2) (aEe hN e1 h2) rfl
theorem mR: ∀ {es:List Expr} {xs:List Str},iM (fun(e:Expr)=>match e with | .Name x _=>some x | _=>none) es=some xs->(assignEach es X.env).length=xs.length/\(assignEach es X.env).findIdx? (·.1)=none
 | [],xs,e=>by cases e;exact⟨rfl,rfl⟩
 | a::es,xs,e=>by
  unfold iM at e
  cases a<;>try (cases e)
  rename_i x px
  simp only at e
  obtain⟨r,e1,e2⟩:=zMd e
  subst e2
  obtain⟨h1,h2⟩:=mR e1
  have q:assignEach (.Name x px::es) X.env=(false,assign (.Name x px) X.env)::assignEach es X.env:=rfl
  rw [q]
  refine⟨by simp [h1], ?_⟩
  rw [List.findIdx?_cons]
  simp [h2]
theorem aNm {xs:List Str} {k:Nat} {is:List Nat} (hc:X.calm=true) (hN:X.N.Nodup) (e:dU tg=some (xs,k)) (h:NmsOk X xs is):PG X tg (gTs X.K k is)/\(k=0/\is.length=1\/k≠0/\k=is.length):=by
 cases tg<;>try (cases e)
 ·rename_i x px
  cases h with
  | cons h1 h2=>
   cases h2
   exact⟨i7 hN h1.1 h1.2.1 h1.2.2, .inl ⟨rfl,rfl⟩⟩
 ·rename_i es j px
  unfold dU at e
  obtain⟨ys,e1,e2⟩:=zBd e
  by_cases hl:2<=ys.length
  ·rw [if_pos hl] at e2
   cases e2
   obtain⟨q1,q2⟩:=mR (X:=X) e1
   have hk:=h.len
   refine⟨?_, .inr ⟨by omega,hk.symm⟩⟩
   have P:=aDo (pos:=px) (k:=j) (n:=is.length) hc (aEe hN e1 h) (by rw [q1,hk]) q2
   have:gTs X.K xs.length is=aI6 X.K is.length (gIs is):=by
    unfold gTs
    cases is with
    | nil=>simp at hk;omega
    | cons i is=>
     cases hx:xs.length with
     | zero=>omega
     | succ n=>rfl
   rw [this]
   exact P
  ·rw [if_neg hl] at e2
   cases e2
theorem SS.setN: ∀ {is:List Nat} {ds:List D} {vs:List V} {ρ:Rho} {σ:St},SS X ad G₀ G H ρ σ->aG X.K ad G ds vs->SS X ad G₀ G H (SK.setN is ds ρ) (aBs is vs σ)
 | [],ds,vs,ρ,σ,S,r=>by
  have e1:SK.setN [] ds ρ=ρ:=by cases ds<;>rfl
  have e2:aBs [] vs σ=σ:=by cases vs<;>rfl
  rw [e1,e2]
  exact S
 | i::is,[],vs,ρ,σ,S,r=>by
  unfold aG at r
  subst r
  exact S
 | i::is,d::ds,vs,ρ,σ,S,r=>by
  unfold aG at r
  obtain⟨v,vr,rfl,r1,r2⟩:=r
  exact SS.setN (is:=is) (ds:=ds) (vs:=vr) (ρ:=ρ.set i (.sh d)) (σ:=σ.set i (some v)) (S.set r1) r2
theorem aKo {k:Nat} {is:List Nat} {d:D} {v:V} {ρ1:Rho} {Q:St->Hp->Prop} (hk:k=0/\is.length=1\/k≠0/\k=is.length) (e:fJ is (k==0) d ρ=some ρ1) (S:SS X ad G₀ G H ρ σ) (r:Rep X.K ad G d v) (q: ∀ σ1,SS X ad G₀ G H ρ1 σ1->Q σ1 H):gTs X.K k is v σ H Q:=by
 rcases hk with ⟨rfl,h1⟩ | ⟨h1,h2⟩
 ·obtain⟨i,rfl⟩:=List.length_eq_one_iff.mp h1
  cases e
  exact q _ (S.set r)
 ·have hb:(k==0)=false:=by simpa using h1
  rw [hb] at e
  have e0:fJ is false d ρ=match(generalizing:=false) d with | .tup ds=>if ds.length=is.length then some (SK.setN is ds ρ) else none | _=>none:=by
   cases is with
   | nil=>rfl
   | cons _ _=>rfl
  have e':=e0.symm.trans e
  have hg:gTs X.K k is=aI6 X.K is.length (gIs is):=by
   unfold gTs
   cases k with
   | zero=>exact absurd rfl h1
   | succ k=>rfl
  rw [hg]
  cases d<;>try (cases e')
  rename_i ds
  simp only at e'
  by_cases hl:ds.length=is.length
  ·rw [if_pos hl] at e'
   cases e'
   unfold Rep at r
   obtain⟨a,vs,rfl,hq,rq⟩:=r
   exact⟨a,vs,rfl,S.st.gh.seqT hq,by rw [rq.length,hl],aEd (by rw [rq.length,hl]) (q _ (S.setN rq))⟩
  ·rw [if_neg hl] at e'
   cases e'
theorem xX {α:Type} {ds:List α} {i:Nat} {d:α} (e:ds[i]? =some d):ds.drop i=d::ds.drop (i+1):=by
 obtain⟨h,rfl⟩:=aw.mp e
 exact List.drop_eq_getElem_cons h
theorem tY {J:It} {G' H':Hp} {ds:List D} {k:Nat} {is:List Nat} (hk:k=0/\is.length=1\/k≠0/\k=is.length) (S:SS X ad G₀ G' H' ρ σ) (hx:XA X ad Z E) (it:ItG X ad J G' ds) (hr:OKo X ad G₀ (bX (fJ is (k==0)) g ds ρ) D' E):
  ∃ W:Nat->Nat->St->Hp->Prop,(∃ m,W 0 m σ H')/\ ∀ i m σ H,W i m σ H->
   (J.stop i H/\D'.nx σ H)\/(J.go i H/\ ∃ N:St->Hp->Prop,(∀ σ' H',N σ' H'-> ∃ m',m'<m/\W (i+1) m' σ' H')/\ ∀ x H',J.yld i H x H'->gTs X.K k is x σ H' fun σ2 H2=>tS X ad Z g { D' with nx:=N,ct:=N,bk:=D'.nx } σ2 H2):=by
 refine⟨fun i m σ H=>m=ds.length - i/\i<=ds.length/\ ∃ G ρ,SS X ad G₀ G H ρ σ/\Same G' G/\OKo X ad G₀ (bX (fJ is (k==0)) g (ds.drop i) ρ) D' E,⟨_,rfl,bq _,G',ρ,S,Same.refl _,hr⟩, ?_⟩
 rintro i m σ1 H1 ⟨rfl,hi,G1,ρ1,S1,sm,hr1⟩
 cases q:ds[i]? with
 | none=>
  have hl:ds.length<=i:=List.getElem?_eq_none_iff.mp q
  have:i=ds.length:=by omega
  subst this
  refine .inl ⟨it.stop G1 H1 sm S1.st.gh, ?_⟩
  rw [List.drop_length] at hr1
  exact hr1 σ1 G1 H1 S1
 | some d=>
  have hlt:i<ds.length:=(aw.mp q).1
  obtain⟨go,yl⟩:=it.go i G1 H1 d sm S1.st.gh q
  refine .inr ⟨go,fun σ' H'=> ∃ G ρ,SS X ad G₀ G H' ρ σ'/\Same G' G/\OKo X ad G₀ (bX (fJ is (k==0)) g (ds.drop (i+1)) ρ) D' E,fun σ' H' ⟨Ga,ρa,Sa,sa,ra⟩=>⟨_,by omega,rfl,hlt,Ga,ρa,Sa,sa,ra⟩,fun x H2 y=> ?_⟩
  obtain⟨G2,st,r2⟩:=yl x H2 y
  rw [xX q] at hr1
  unfold bX at hr1
  cases et:fJ is (k==0) d ρ1 with
  | none=>rw [et] at hr1;exact hr1.elim
  | some ρ2=>
   rw [et] at hr1
   have S2:=S1.step st
   refine aKo hk et S2 r2 fun σ2 S3=> ?_
   refine⟨G2,G2,ρ2,E,S3.here,hx, ?_⟩
   have hr2:OKo X ad G₀ (match g ρ2 with
    | .nx ρ2=>bX (fJ is (k==0)) g (ds.drop (i+1)) ρ2
    | .ct ρ2=>bX (fJ is (k==0)) g (ds.drop (i+1)) ρ2
    | .bk ρ2=> .nx ρ2
    | .rt r=> .rt r
    | .ex c ρ2=> .ex c ρ2) D' E:=hr1
   cases eo:g ρ2 with
   | nx ρ3=>
    rw [eo] at hr2
    exact fun σ G H S4=>⟨G,ρ3,S4.up S3.st,(sm.trans st.sg).trans S4.st.sg,hr2⟩
   | ct ρ3=>
    rw [eo] at hr2
    exact fun σ G H S4=>⟨G,ρ3,S4.up S3.st,(sm.trans st.sg).trans S4.st.sg,hr2⟩
   | bk ρ3=>
    rw [eo] at hr2
    exact fun σ G H S4=>hr2 σ G H (S4.up S3.st)
   | ex c ρ3=>
    rw [eo] at hr2
    exact fun σ G H S4=>hr2 σ G H (S4.up S3.st)
   | rt r=>
    rw [eo] at hr2
    have:=hr2.rebase S3.st
    cases r<;>exact this
theorem aKp {k:Nat} {is:List Nat} {xs:List Str} (hp:PassesOwn (model X.prog X.w) X.A X.env X.xe) (hc:X.calm=true) (hN:X.N.Nodup) (hi:MIG X ad tg it f) (ht:dU tg=some (xs,k)) (hn:NmsOk X xs is) (hb:MSs X ad Z body g)
  (hs: ∀ x,foldedSetIterable it X.env x=pure x):MS X ad Z (.For tg it body [] pos) (o9 is (k==0) f g):=by
 obtain⟨P,hk⟩:=aNm hc hN ht hn
 refine PS.imp (aDq hp hc hi P hb hs) ?_
 rintro D' σ H ⟨G₀,G,ρ,E,S,hx,hr⟩
 refine⟨G,ρ,E σ,S.st.gh,S.sl,hx.1 σ, ?_⟩
 unfold o9 jZ at hr
 cases e:f ρ with
 | ok d=>
  rw [e] at hr
  have hr':OKo X ad G₀ (match items d with | some ds=>bX (fJ is (k==0)) g ds ρ | none=> .rt .bad) D' E:=hr
  cases e2:items d with
  | none=>rw [e2] at hr';exact hr'.elim
  | some ds=>
   rw [e2] at hr'
   exact⟨ds,e2,fun J G' H' st it=>tY hk (S.step st) hx it hr'⟩
 | ow xs=>
  rw [e] at hr
  exact fun J G' H' st it=>tY hk (S.step st) hx it hr
 | ex c=>rw [e] at hr;exact fun G1 H1 st=>hr σ G1 H1 (S.step st)
 | bad=>rw [e] at hr;exact hr
theorem aBt {c:Expr} (hp:PassesOwn (model X.prog X.w) X.A X.env X.xe) (hc:MT X ad c f) (hb:MSs X ad Z body g):MS X ad Z (.While c body [] pos) (tK f g):=by
 refine PS.imp (aA4 hp hc hb) ?_
 rintro D' σ H ⟨G₀,G,ρ,E,S,hx,hr⟩
 refine⟨fun m σ H=> ∃ G ρ,SS X ad G₀ G H ρ σ/\OKo X ad G₀ (bL f g m ρ) D' E,⟨_,G,ρ,S,hr⟩, ?_⟩
 rintro m σ1 H1 ⟨G1,ρ1,S1,hr1⟩
 cases m with
 | zero=>exact hr1.elim
 | succ m=>
  unfold bL at hr1
  cases e:f ρ1 with
  | ok d=>
   rw [e] at hr1
   cases d<;>try exact hr1.elim
   rename_i k
   refine⟨G1,ρ1,E σ1,S1.st.gh,S1.sl,hx.1 σ1, .inl ⟨k,e⟩, ?_⟩
   rw [e]
   intro v G2 H2 st r
   unfold Rep at r;subst r
   refine⟨k,rfl, ?_⟩
   have S2:=S1.step st
   cases k with
   | false=>exact aDt (hr1 σ1 G2 H2 S2)
   | true=>
    refine aBb ⟨fun σ' H'=> ∃ G ρ,SS X ad G₀ G H' ρ σ'/\OKo X ad G₀ (bL f g m ρ) D' E,fun σ' H' ⟨Ga,ρa,Sa,ra⟩=>⟨m,Nat.lt_succ_self _,Ga,ρa,Sa,ra⟩,G2,G2,ρ1,E,S2.here,hx, ?_⟩
    have hr2:OKo X ad G₀ (match g ρ1 with
     | .nx ρ'=>bL f g m ρ'
     | .ct ρ'=>bL f g m ρ'
     | .bk ρ'=> .nx ρ'
     | .rt r=> .rt r
     | .ex k ρ'=> .ex k ρ') D' E:=hr1
    cases eo:g ρ1 with
    | nx ρ3=>rw [eo] at hr2;exact fun σ G H S4=>⟨G,ρ3,S4.up S2.st,hr2⟩
    | ct ρ3=>rw [eo] at hr2;exact fun σ G H S4=>⟨G,ρ3,S4.up S2.st,hr2⟩
    | bk ρ3=>rw [eo] at hr2;exact fun σ G H S4=>hr2 σ G H (S4.up S2.st)
    | ex c ρ3=>rw [eo] at hr2;exact fun σ G H S4=>hr2 σ G H (S4.up S2.st)
    | rt r=>
     rw [eo] at hr2
     have:=hr2.rebase S2.st
     cases r<;>exact this
  | ow xs=>rw [e] at hr1;exact hr1.elim
  | ex k=>
   rw [e] at hr1
   refine⟨G1,ρ1,E σ1,S1.st.gh,S1.sl,hx.1 σ1, .inr ⟨k,e⟩, ?_⟩
   rw [e]
   exact fun G2 H2 st=>hr1 σ1 G2 H2 (S1.step st)
  | bad=>rw [e] at hr1;exact hr1.elim
theorem aKq {st:Stmt}:MS X ad Z st aMd:=fun _ _ _ _ _ _ ⟨_,_,_,_,_,_,hr⟩=>ay hr
end
section
variable {X:Cx} {ad:Ad} {pins:List (Addr×Obj)} {s s3:Shared} {σ σ2:St} {H G G₀ H3 H':Hp} {ρ:Rho} {Q:VK} {D':Ends} {E:St->Nat->Hp->Prop} {pos pos' cpos:Pos} {elt it tg:Expr} {ifs:List Expr} {f fi fe:F} {fc:Option F} {sc:Scope} {k:Nat} {cs:List Nat} {xs:List Str}
theorem sD {s2:Shared} {h':Heap} (I3:Inv X pins σ H3 s3) (I2:Inv X pins σ2 H' s2) (hf:H' s3.heap.objs.size=none) (sb:Heap.SameBut s3.heap.objs.size s2.heap h'):Inv X pins σ2 H' { s2 with heap:=h' }:=by
 refine I2.turned (t':=s2.toks) (it:=s3.heap.objs.size) (fun b o ne e=>(sb.2 b ne).trans e) hf ?_ (.inr I3.sz) (fun x c h z=> ?_) fun p hp z=> ?_
 ·intro z
  obtain⟨m,hn,_⟩:=I3.loc
  obtain⟨o,_,_,ho,_⟩:=hn
  exact absurd (ah ho) (by rw [<-z];exact Nat.lt_irrefl _)
 ·obtain⟨v,o,ho,_⟩:=I3.cell x c h
  exact absurd (ah ho) (by rw [z];exact Nat.lt_irrefl _)
 ·obtain⟨ho,_⟩:=I3.pin p hp
  exact absurd (ah ho) (by rw [z];exact Nat.lt_irrefl _)
theorem aBu {h h':Heap} {a C:Addr} {m:Str->Option Value} (n:h.Ns C m) (sb:Heap.SameBut a h h') (ne:C≠a):h'.Ns C m:=by
 obtain⟨o,es,ep,ho,r⟩:=n
 exact⟨o,es,ep,(sb.2 C ne).trans ho,r⟩
theorem aGo {C:Ctx} {i:Nat} {x:Str} (hN:X.N.Nodup) (hi:aIm X x i) (hc:X.calm=true) (S:CompSc X C sc xs cs) (hit:MI X ad tg it fi) (hset: ∀ a b c,it≠ .Set a b c) (hxs:xs.length=if k=0 then 1 else k)
  (hg: ∀ fp s3 H3 pins',PG (cX X (xs++bO sc) sc s3 H3 fp pins') tg (gTg X.K k)) (hts: ∀ fp s3 H3 pins',MTs (cX X (xs++bO sc) sc s3 H3 fp pins') ad ifs fc) (he: ∀ fp s3 H3 pins',ME (cX X (xs++bO sc) sc s3 H3 fp pins') ad elt fe)
  (hs:swapsWith (.ListComp elt [⟨tg,it,ifs,0⟩] sc cpos) (some (.Name x pos')) pos.line X.env=pure true):
  PS X (.Assign [.Name x pos'] (.ListComp elt [⟨tg,it,ifs,0⟩] sc cpos) pos) (aIi (tE X ad (aF k cs fi fc fe)) (kH i)):=by
 intro pins s σ H D' I ⟨G,ρ,E,hG,hS,hx,hr⟩
 rw [exec_Assign_Name_used _ _ _ _ hs]
 have hcl:closureFor sc X.env=pure (rH X.env.cells sc.names []):=mO fun x hx=>by
  obtain⟨c,h⟩:=I.ok.has x (S.fre x hx)
  rw [h];rfl
 refine aa (wpAny_standAt (aa ?_))
 show wpAny _ X.A (do let _<-comprehension (.ListComp elt [⟨tg,it,ifs,0⟩] sc cpos) sc X.env _ (newList []) false (eval it X.env) (some (assign (.Name x pos') X.env))) _ _ s
 refine aa (wpAny_mono (wpAny_comprehension_free (use:=some (assign (.Name x pos') X.env)) (Q:=fun _ s'=>SP X pins D' .next s') rfl (aGa hset) hcl S.kind S.names ?_) (fun _ s' hq=>ae (ae hq)) fun _ _ e=>e)
 refine L2.thn (hit pins s σ H _ I ⟨G,ρ,E,hG,hS,hx,aKk (W:=fun J H2=> ∃ G2 ds all,Step G H G2 H2/\ItH X ad J G2 H2 ds/\bH (dD k (iH cs ρ) fc fe) ds=some all/\RK X.K ad G2 H2 (.ow all) (fun v H1=>kH i v σ H1 D'.nx) E) hr fun J G2 H2 ds all a b c d=>⟨G2,ds,all,a,b,c,d⟩⟩) fun v s1 h1=>
  L2.thn h1 fun itv s2 hz_=> ?_
 obtain⟨itA,fp,tn,J,H2,e,I2,T,st2,f2,G2,ds,all,sp,hit,hgo,hr2⟩:=hz_
 subst e
 obtain⟨σc,l1,l2,l3⟩:=mP (xs:=xs) (sc:=sc) (nt:=if k=0 then 1 else k) hxs S.N S.cs (fun x h=>p6 h) (hS.step sp) I2.len
 refine p0 (σc:=σc) hc I2 T st2 f2 hit hgo sp.gh S.kind S.cell S.fre S.frl l1 l2 rfl l3 (hg fp) (hts fp) (he fp) fun s3 s' H3 H' G' σ' D vs I3 f3 J' sp' hD gD hD' r'=> ?_
 obtain⟨m,hns,_⟩:=J'.loc
 have I4:Inv X pins σ H' s':=aEa (fpO:=f3) I3 J' ⟨rfl,fun _ _=>rfl⟩
 show wpAny _ X.A (assign (.Name x pos') X.env (.ref D)) _ _ _
 refine wpAny_assign_Name (pA I4 hN hi.1 hi.2.1 (v:= .ref D) rfl (fun s'' I5 ⟨a,sb,ha⟩=> ?_) hi.2.2)
 have ne:s3.heap.objs.size≠a:=by
  rcases ha with rfl | ha
  ·intro z
   obtain⟨m',hn,_⟩:=I3.loc
   obtain⟨o,_,_,ho,_⟩:=hn
   exact absurd (ah ho) (by rw [<-z];exact Nat.lt_irrefl _)
  ·intro z
   obtain⟨v,o,ho,_⟩:=I3.cell x a ha
   exact absurd (ah ho) (by rw [<-z];exact Nat.lt_irrefl _)
 refine⟨m,aBu hns sb ne,fun h' sb'=> ?_⟩
 exact⟨σ.set i (some (.ref D)),H',sD I3 I5 J'.free sb',hr2 D vs G' H' sp' hD gD hD' r'⟩
end
section
variable {X:Cx} {ad:Ad} {Z:(St->Nat->Hp->Prop)->Prop} {e:Expr} {f:F}
noncomputable def aNn (K:PySem.W.Frag) (i:Nat):TI:=fun σ H W=> ∃ a vs,σ[i]? =some (some (.ref a))/\SqL K H a vs/\W (Itl K a) H
theorem aKr {tg:Expr} {i:Nat} {x:Str} {p:Pos} (hN:X.N[i]? =some x) (hv:Vis X.env.scope x) (hd:(x==("__debug__":Str))=false) (hcd:(x==("__classdict__":Str))=false):PI X tg (.Name x p) (aNn X.K i):=by
 intro pins s σ H W I ⟨a,vs,h1,hq,hw⟩
 refine L2.thn (gT hN hv hd hcd pins s σ H (fun v H1=>v= .ref a/\H1=H) I ⟨.ref a,h1,rfl,rfl⟩) fun u s1 ⟨v,H1,I1,r1,e1,e2⟩=> ?_
 subst e1 e2
 cases (show u=Value.ref a from r1)
 obtain⟨its,rv,pt,hz⟩:=I1.list hq
 refine wpAny_pyIter_list pt.isList ?_
 refine⟨s1.heap.objs.size,[s1.heap.objs.size],_,_,H1,rfl,I1.kept (t':=s1.toks) fun b o e=>af _ e,kJ a _,⟨_,ag _ rfl,rfl,rfl⟩,fun b hb=> ?_,hw⟩
 have e:b=s1.heap.objs.size:=by simpa using hb
 subst e
 exact I1.fpOk (aj _) (I1.hok.fresh (aj _))
theorem aGp {i j t:Nat} {x y z:Str} {px py p ap cp pos pos':Pos} (hp:PassesOwn (model X.prog X.w) X.A X.env X.xe) (hc:X.calm=true) (hND:X.N.Nodup) (hy1:X.N[i]? =some y) (hy2:Vis X.env.scope y) (hy3:(y==("__debug__":Str))=false) (hy4:(y==("__classdict__":Str))=false)
  (hz1:X.N[j]? =some z) (hz2:Vis X.env.scope z) (hz3:(z==("__debug__":Str))=false) (hz4:(z==("__classdict__":Str))=false) (ht:aIm X x t) (hti:t≠i) (hij:i≠j) (he:ME X ad e f) (hs:starEach [e] X.env=(false,eval e X.env)::starEach [] X.env)
  (hline:(ap.endLine==cp.line)=true):MS X ad Z (.For (.Name x px) (.Name y py) [.Expr (.Call (.Attribute (.Name z p) "extend" ap) [e] [] cp) pos'] [] pos) (xC t i (gC j f)):=by
 refine PS.imp (aDq hp hc (aKr hy1 hy2 hy3 hy4) (i7 hND ht.1 ht.2.1 ht.2.2) (wQ (nM (aFg (T:="list") PySem.F.plainAttrs_list PySem.F.slot_list_extend PySem.F.type_list_extend aEc (gT hz1 hz2 hz3 hz4) (dR he gA hs) rfl (j8 hs) hline hs rfl) rfl)) (fun _=>rfl)) ?_
 rintro D' σ H ⟨G₀,G,ρ,E,S,hx,hr⟩
 unfold xC at hr
 cases q:ρ[i]? with
 | none=>rw [q] at hr;exact hr.elim
 | some sl=>
  rw [q] at hr
  cases sl with
  | no=>exact hr.elim
  | sh d=>exact hr.elim
  | dc d=>exact hr.elim
  | sd d=>exact hr.elim
  | ow ds=>
   have hr:OKo X ad G₀ (bX (fJ [t] true) (gC j f) ds ρ) D' E:=hr
   obtain⟨a,vs,h1,h2,h3,h4⟩:=S.sl.ow q
   refine⟨a,vs,h1,SqL.of h3,fun k m σ H=>m=ds.length - k/\k<=ds.length/\ ∃ G ρ,SS X ad G₀ G H ρ σ/\σ[i]? =some (some (.ref a))/\ρ[i]? =some (.ow ds)/\OKo X ad G₀ (bX (fJ [t] true) (gC j f) (ds.drop k) ρ) D' E,⟨_,rfl,bq _,G,ρ,S,h1,q,hr⟩, ?_⟩
   rintro k m σ1 H1 ⟨rfl,hk,G1,ρ1,S1,ha,hρ,hr1⟩
   obtain⟨a',vs1,e1,g1,l1,rp1⟩:=S1.sl.ow hρ
   rw [ha] at e1
   cases e1
   cases qd:ds[k]? with
   | none=>
    have hl:ds.length<=k:=List.getElem?_eq_none_iff.mp qd
    have:k=ds.length:=by omega
    subst this
    refine .inl ⟨⟨vs1,SqL.of l1,by rw [rp1.length];exact aj _⟩, ?_⟩
    rw [List.drop_length] at hr1
    exact hr1 σ1 G1 H1 S1
   | some d=>
    have hlt:k<ds.length:=(aw.mp qd).1
    obtain⟨v,ev,rv⟩:=rp1.get qd
    refine .inr ⟨⟨vs1,v,SqL.of l1,ev⟩,fun σ' H'=> ∃ G ρ,SS X ad G₀ G H' ρ σ'/\σ'[i]? =some (some (.ref a))/\ρ[i]? =some (.ow ds)/\OKo X ad G₀ (bX (fJ [t] true) (gC j f) (ds.drop (k+1)) ρ) D' E,fun σ' H' ⟨Ga,ρa,Sa,sa,qa,ra⟩=>⟨_,by omega,rfl,hlt,Ga,ρa,Sa,sa,qa,ra⟩, ?_⟩
    rintro v' H2 ⟨rfl,yv⟩
    have:=yv vs1 (SqL.of l1)
    rw [ev] at this
    cases this
    rw [xX qd] at hr1
    unfold bX at hr1
    have hr2:OKo X ad G₀ (match gC j f (ρ1.set t (.sh d)) with
     | .nx ρ2=>bX (fJ [t] true) (gC j f) (ds.drop (k+1)) ρ2
     | .ct ρ2=>bX (fJ [t] true) (gC j f) (ds.drop (k+1)) ρ2
     | .bk ρ2=> .nx ρ2
     | .rt r=> .rt r
     | .ex c ρ2=> .ex c ρ2) D' E:=hr1
    clear hr1
    have S2:SS X ad G₀ G1 H2 (ρ1.set t (.sh d)) (σ1.set t (some v)):=S1.set rv
    have ha2:(σ1.set t (some v))[i]? =some (some (.ref a)):=by rw [az hti];exact ha
    have hρ2:(ρ1.set t (.sh d))[i]? =some (.ow ds):=by rw [az hti];exact hρ
    generalize ρ1.set t (.sh d)=ρ2 at S2 hρ2 hr2
    cases q2:ρ2[j]? with
    | none=>
     have:gC j f ρ2= .rt .bad:=by unfold gC;rw [q2]
     rw [this] at hr2;exact hr2.elim
    | some sl=>
     have bad: ∀ sl,ρ2[j]? =some sl->(∀ xs,sl≠ .ow xs)->gC j f ρ2= .rt .bad:=fun sl q2 h=>by
      unfold gC;rw [q2]
      cases sl with
      | ow xs=>exact absurd rfl (h xs)
      | _=>rfl
     cases sl with
     | no=>rw [bad _ q2 (fun _ z=>nomatch z)] at hr2;exact hr2.elim
     | sh d=>rw [bad _ q2 (fun _ z=>nomatch z)] at hr2;exact hr2.elim
     | dc d=>rw [bad _ q2 (fun _ z=>nomatch z)] at hr2;exact hr2.elim
     | sd d=>rw [bad _ q2 (fun _ z=>nomatch z)] at hr2;exact hr2.elim
     | ow xs=>
      obtain⟨b,ws,b1,b2,b3,b4⟩:=S2.sl.ow q2
      refine⟨.ref b,b1, .inl ⟨rfl,ws,SqL.of b3⟩, ?_⟩
      have es:gC j f ρ2=jZ ρ2 (f ρ2) fun d=>(match d with
       | .lst ys=>if xs.length+ys.length<=LIM then .nx (ρ2.set j (.ow (xs++ys))) else .rt .bad
       | _=> .rt .bad):=by unfold gC;rw [q2]<;>rfl
      have fin: ∀ (ys:List D) (w:V) (G3 H3:Hp),Step G1 H2 G3 H3->Rep X.K ad G3 (.lst ys) w->OKo X ad G₀ (match(if xs.length+ys.length<=LIM then Out.nx (ρ2.set j (.ow (xs++ys))) else .rt .bad) with
        | .nx ρ2=>bX (fJ [t] true) (gC j f) (ds.drop (k+1)) ρ2
        | .ct ρ2=>bX (fJ [t] true) (gC j f) (ds.drop (k+1)) ρ2
        | .bk ρ2=> .nx ρ2
        | .rt r=> .rt r
        | .ex c ρ2=> .ex c ρ2) D' E->aOz X.K (.ref b) [w] H3 fun _ H4=> ∃ G ρ,SS X ad G₀ G H4 ρ (σ1.set t (some v))/\(σ1.set t (some v))[i]? =some (some (.ref a))/\ρ[i]? =some (.ow ds)/\OKo X ad G₀ (bX (fJ [t] true) (gC j f) (ds.drop (k+1)) ρ) D' E:=by
       intro ys w G3 H3 st r hr3
       by_cases hcl:xs.length+ys.length<=LIM
       ·rw [if_pos hcl] at hr3
        obtain⟨g3,h3'⟩:=eM st b2 b3
        unfold Rep at r
        obtain⟨c,us,rfl,hq,rq⟩:=r
        refine⟨b,c,ws,us,rfl,rfl,h3',st.gh.seq hq, ?_,G3,ρ2.set j (.ow (xs++ys)),(S2.step st).upd q2 b1 g3 ((b4.mono st.sg).append rq),ha2,by rw [az (Ne.symm hij)];exact hρ2,hr3⟩
        rw [b4.length,rq.length]
        exact Nat.le_trans hcl (by decide)
       ·rw [if_neg hcl] at hr3
        exact hr3.elim
      rw [es] at hr2
      refine⟨G1,ρ2,E (σ1.set t (some v)),S2.st.gh,S2.sl,hx.1 _, ?_⟩
      unfold jZ at hr2
      cases ef:f ρ2 with
      | ok d=>
       rw [ef] at hr2
       intro v3 G3 H3 st r
       cases d<;>try exact hr2.elim
       rename_i ys
       exact fin ys v3 G3 H3 st r hr2
      | ow ys=>
       rw [ef] at hr2
       intro p3 vs3 G3 H3 st n m3 e3 r3
       obtain⟨G4,st4,r4⟩:=cW (X:=X) (ad:=ad) st n m3 e3 r3
       exact fin ys _ G4 H3 st4 r4 hr2
      | ex c=>
       rw [ef] at hr2
       exact fun G3 H3 st=>hr2 _ G3 H3 (S2.step st)
      | bad=>rw [ef] at hr2;exact hr2.elim
end
open PySem.W PySem.Calls Builtin Builtin.ObjectAttr Builtin.Getset_descriptor
section
variable {prog:Program} {w:World} {A:Around} {E:Value->Shared->Prop} {s:Shared} {K:Frag} {x C:Addr} {R:Result->Shared->Prop}
theorem nS.ty {M:Model} {h:Heap} (I:nS h x C):Looks M h (typeOf (.ref x)) (.ref C):=by
 obtain⟨o,vs,h1,h2,h3⟩:=I
 exact h2▸(Looks.ld h1).andThen .now
theorem aGq {tp:Value} (X:K.In s.heap) (I:nS s.heap x C) (hm:mroIn K C (.type "object")=some true) (h:R (.ok (.ret (.ref C))) s):
  codeAny (model prog w) A (.call (.builtin "getset_descriptor.__get__") ⟨[.builtin "object.__class__", .ref x,tp],[]⟩) R s:=by
 obtain⟨hh,g,dr,t,os⟩:=s
 have L0:=I.ty (M:=model prog w)
 have L1:=looks_mroIn (M:=model prog w) X hm
 refine codeAny_call_builtin KF.slot_gs.plain KF.entry_gs (KF.slot_gs.check _ _ _ _ _ _ _ _ KF.type_class (KF.args_gs _ _ _) ?_)
 unfold Builtin.«getset_descriptor.__get__» descrGet
 rw [dga_obj]
 refine aa (ae ?_)
 unfold descrGetter descrCheckInstance descrNameAndClass isInstance
 simp only [KF.owner_class]
 repeat lk
 refine⟨Code.quiet_builtin _ (by decide+kernel),codeAny_builtin KF.entry_class ?_⟩
 unfold Builtin.«object.__class__» shownTypeOf
 repeat lk
 exact h
theorem xY {M:Model} {nameV:Value} {Q:Unit->Shared->Prop} (X:K.In s.heap) (I:nS s.heap x C) (hm:mroIn K C (.type "BaseException")=some true) (hq:Q () s):wpAny M A (checkBuiltinCall "BaseException.__getattribute__" ⟨[.ref x,nameV],[]⟩) Q E s:=by
 obtain⟨hh,g,dr,t,os⟩:=s
 have hk:builtinKind "BaseException.__getattribute__"=some .slot:=by decide+kernel
 have hsplit:splitId "BaseException.__getattribute__"=some ("BaseException","__getattribute__"):=by decide+kernel
 have L0:=I.ty (M:=M)
 have L1:=looks_mroIn (M:=M) X hm
 have ha:=F.args_bexc_ga (.ref x) nameV
 simp only [checkBuiltinCall,hk,hsplit]
 refine aa ?_
 unfold isInstance
 refine aa (L0.at (L1.at ?_))
 repeat (any_goals (first | assumption | wp_step))
theorem xZ {tk:Tok} {Q:PySem.Fin->Shared->Prop} (X:K.In s.heap) (I:nS s.heap x C) (hm:mroIn K C (.type "object")=some true) (ha:findIn K (.ref C) "__class__"=some (some (.builtin "object.__class__"))) (hq:Q (.done (.ret (.ref C))) s):
  wpAny (model prog w) A (Builtin.«object.__getattribute__» ⟨[.ref x, .str "__class__" tk],[]⟩) Q E s:=by
 obtain⟨hh,g,d,t,os⟩:=s
 have hT5:(⟨hh,g,d,t,os⟩:Shared).TypeIs (.builtin "object.__class__") "getset_descriptor":=F.typeOf_object_class
 have f5:=F.typeOf_object_class
 have f6:=F.slot_gs_get.lookup
 have f7:=F.slot_gs_set.lookup
 have L0:=I.ty (M:=model prog w)
 have L1:=looks_findIn (M:=model prog w) X ha
 obtain⟨o,vs,hx,hc,hd⟩:=id I
 repeat (any_goals (first | assumption | (with_reducible refine wpAny_loadPart_at hx ?_;rw [hc]) | with_reducible refine L1.at ?_ | wp_step))
 refine aGq X I hm ?_
 repeat (any_goals (first | assumption | wp_step))
theorem x3 {Q:Option Value->Shared->Prop} (X:K.In s.heap) (I:nS s.heap x C) (hm:mroIn K C (.type "object")=some true) (hb:mroIn K C (.type "BaseException")=some true) (ha:findIn K (.ref C) "__class__"=some (some (.builtin "object.__class__")))
  (hg:findIn K (.ref C) "__getattribute__"=some (some (.builtin "BaseException.__getattribute__"))) (hn:findIn K (.ref C) "__getattr__"=some none) (h:Q (some (.ref C)) { s with toks:=s.toks+1 }):
  wpAny (model prog w) A (getAttr? (.ref x) "__class__") Q E s:=by
 obtain⟨hh,g,d,t,os⟩:=s
 have L0:=I.ty (M:=model prog w)
 have L1:=looks_findIn (M:=model prog w) X hg
 have L2:=looks_findIn (M:=model prog w) X hn
 have f3:=PySem.F.excAttr_ValueError.ga.bind (.ref x)
 have hx2:(Value.builtin "BaseException.__getattribute__"==Value.builtin "object.__getattribute__")=false:=by decide+kernel
 have hx1:(onTheHeap (Value.ref C)&&Value.builtin "BaseException.__getattribute__"==Value.builtin "object.__getattribute__")=false:=by rw [hx2];rfl
 obtain⟨o,vs,hx,hc,hd⟩:=id I
 unfold getAttr? getAttrBy? getAttrBy
 repeat (any_goals (first | assumption | (with_reducible refine wpAny_loadPart_at hx ?_;rw [hc]) | with_reducible refine L1.at ?_ | with_reducible refine L2.at ?_ | wp_step))
 refine codeAny_call_builtin PySem.F.excAttr_ValueError.ga.plain F.entry_bexc_ga (xY X I hb (xZ X I hm ha ?_))
 repeat (any_goals (first | assumption | wp_step))
end
theorem _root_.L2.ObjOk.there {P:Program} {w:World} {H:Hp} {h:Heap} {a:Addr} {o:HO} (x:ObjOk P w H h a o): ∃ ob,h.get? a=some ob:=by
 cases o with
 | lst xs=>obtain⟨_,_,_,_,e⟩:=x;exact⟨_,e⟩
 | tup xs=>obtain⟨_,_,_,⟨ob,e,_⟩,_⟩:=x;exact⟨_,e⟩
 | dK kvs=>obtain⟨_,_,_,_,o,_,_,e,_⟩:=x;exact⟨_,e⟩
 | dT kvs=>obtain⟨_,_,_,_,o,_,_,e,_⟩:=x;exact⟨_,e⟩
 | set S n=>obtain⟨o,_,_,_,e,_⟩:=x;exact⟨_,e⟩
 | ins C dx fs=>obtain⟨_,_,_,e,_⟩:=x;exact⟨_,e⟩
 | own y=>exact x
 | xd fs=>obtain⟨_,⟨_,_,_,e,_⟩,_⟩:=x;exact⟨_,e⟩
 | rng lo hi=>obtain⟨_,_,_,e⟩:=x;exact⟨_,e⟩
 | frz ob u=>obtain⟨e,_⟩:=x;exact⟨_,e⟩
 | tbl ps=>exact⟨_,(show h.get? a=some _ from x)⟩
 | met f y=>exact⟨_,(show h.get? a=some _ from x)⟩
 | ext φ=>obtain⟨_,e,_⟩:=x;exact e
section
variable {X:Cx} {ad:Ad} {pins:List (Addr×Obj)} {s:Shared} {σ:St} {H H':Hp} {B h':Heap} {ea:Addr} {cls a0:Value} {E₀:XK} {E:Nat->Hp->Prop}
structure DefX (X:Cx) (E₀:XK):Prop where
 ex:X.ex=[]
 stk:X.stack=X.env::X.outer
 fr:X.env.frame=some X.env.locals
 xe: ∀ e s',wpAny (model X.prog X.w) X.A (leaving X.env e) (fun _ s''=>CXe X.prog X.w X.outer X.H₀ X.s₀ E₀ e s'') (fun e' s''=>CXe X.prog X.w X.outer X.H₀ X.s₀ E₀ e' s'') s'->X.xe e s'
theorem tZ (J:Inv X pins σ H s) {b:Addr} {o:Obj} (e:X.s₀.heap.get? b=some o):b≠X.env.locals:=fun z=>by
 have:=ah e
 rw [z] at this
 exact absurd (bf this J.ok.above) (Nat.lt_irrefl _)
theorem x4 (J:Inv X pins σ H s) {b:Addr} {o:Obj} (e:X.s₀.heap.get? b=some o) (nf:b∉X.fs):b∉frs X.stack:=fun z=>by
 rcases aq.mp (J.stkSub b z) with q | q
 ·exact tZ J e q
 ·exact nf q
theorem aEf (T:DefX X E₀) (J:Inv X pins σ H' s) (fly:Heap.FlyingW B X.outer ea cls a0 h') (ff:s.heap.FunFrames B X.stack) (l4:B.StaysIn s.heap) (up:s.heap.UpToSlots h')
  (c8: ∀ b o,X.s₀.heap.get? b=some o->b∉X.fs-> ∃ o',B.get? b=some o') (c9: ∀ b o,H' b=some o-> ∃ o',B.get? b=some o') (ne:H' ea=none) (q:E₀ cls none H'):
  CXe X.prog X.w X.outer X.H₀ X.s₀ E₀ (.ref ea) { s with heap:=h' }:=by
 have nx: ∀ b,b∉X.ex:=fun b=>by rw [T.ex];simp
 have st2:B.StaysIn h':=fly.1
 have inB: ∀ b o,s.heap.get? b=some o->(∃ o',B.get? b=some o')->h'.get? b=some o:=fun b o e ⟨o',e'⟩=>by
  have:=l4 b o' e'
  rw [e] at this
  cases this
  exact st2 b o e'
 have frame: ∀ b∈X.fs, ∀ o,s.heap.get? b=some o-> ∃ sl,h'.get? b=some { o with slots:=sl }:=fun b hb o e=>by
  obtain⟨_,o2,e2,nf⟩:=ff.mem (b:=b) (by rw [T.stk];show b∈frs (X.env::X.outer);unfold frs;rw [List.filterMap_cons,T.fr];exact List.mem_cons_of_mem _ hb)
  rw [e] at e2
  cases e2
  exact up b o e nf
 refine⟨ea,cls,a0,H',B,rfl,J.os,J.bare,fly,⟨fun b o e n hf _=> ?_,fun b o e n hf _=> ?_,fun b o e n _=> ?_,fun b o e _=> ?_,J.base.tups,J.base.frzs,J.base.tbls⟩,fun b o e=> ?_,ne,c8,c9,q⟩
 ·exact inB b o (J.base.keep b o e n hf (nx b)) (c8 b o e hf)
 ·obtain⟨sl,e1⟩:=J.base.slot b o e n hf (nx b)
  obtain⟨sl',e2⟩:=frame b hf _ e1
  exact⟨sl',e2⟩
 ·exact J.base.free b o e n (nx b)
 ·obtain⟨o',e1⟩:=J.base.there b o e (nx b)
  by_cases hf:b∈X.fs
  ·obtain⟨sl,e2⟩:=frame b hf _ e1
   exact⟨_,e2⟩
  ·exact⟨o',inB b o' e1 (c8 b o e hf)⟩
 ·refine(J.hok b o e).stay (fun c v hc e1=> ?_) (fun _ z=>z) fun _ _ z=>z
  rcases hc with rfl | hc
  ·exact inB c v e1 (c9 c o e)
  ·exact inB c v e1 (c9 c _ hc)
theorem aKs (T:DefX X E₀):XP X ad σ (fun c H'=>E₀ (.ref (ad.cls c)) none H'):=by
 intro pins H s e s' I hc
 obtain⟨ea,cls,a0,H',B,rfl,ho,hg,fly,un,hok,ne,c8,c9,c,rfl,q⟩:=hc
 have J:Inv X pins σ H' s':=I.call' (ch:=[]) ho un hok hg fun b hb=>by simp at hb
 refine T.xe _ _ ?_
 have hfr:X.A.frames=some (X.env::X.outer):=by rw [<-T.stk];exact I.ok.frames
 rw [T.stk] at fly
 refine wpAny_leaves_onW hfr T.fr fly fun h' fly' up=> ?_
 refine aEf T J fly' (by rw [T.stk];exact fly.2.2.1) fly.1 up (fun b o e hf=> ?_) c9 ne q
 obtain⟨o',e1⟩:=I.base.there b o e (by rw [T.ex];simp)
 exact c8 b o' e1 (x4 I e hf)
theorem aBv {x:Str} {C:Addr} {np cpos pos kp:Pos} {msg:Str} {j:Nat} {D':Ends} (T:DefX X E₀) (hc:X.calm=true) (hg:L2.Gl X x) (hm:X.mg x=some (.ref C)) (hd:(x==("__debug__":Str))=false) (hi:excIn X.K C [.type "ValueError", .type "Exception", .type "BaseException", .type "object"] "ValueError.__new__"=true)
  (I:Inv X pins σ H s) (q:E₀ (.ref C) none H):wpAny (model X.prog X.w) X.A (exec (.Raise (some (.Call (.Name x np) [.Constant (.str msg) j kp] [] cpos)) none pos) X.env) (SP X pins D') X.xe s:=by
 have obj: ∀ h₀:Heap,X.K.In h₀-> ∃ bm N nm q bs hdct sn sub ab col dd k0 k1 k2 k3 k5 mN,h₀.get? C=some (excClassObj nm q C N bs bm hdct sn sub ab col dd k0 k1 k2 k3 k5 "ValueError.__new__")/\h₀.Ns N mN/\mN "__init__"=none/\OwnTail h₀ [.type "ValueError", .type "Exception", .type "BaseException", .type "object"] bm:=by
  intro h₀ Z
  have q:=hi
  unfold excIn at q
  split at q
  ·rename_i dd cd sl ho
   split at q
   ·rename_i C' bm k0 k1 k2 k3 n k5 hm hs
    simp only [au,beq_iff_eq,Bool.not_eq_true'] at q
    obtain⟨⟨⟨⟨⟨rfl,rfl⟩,hdel⟩,ht⟩,hok⟩,hni⟩:=q
    obtain⟨nm,bs,mro,ns,qn,hd,sn,sub,ab,col,del⟩:=cd
    dsimp only at hm hdel hok hni
    subst hm hdel
    have hsl:sl= #[k0,k1,k2,k3,some (.builtin "ValueError.__new__"),k5]:=by
     obtain⟨l⟩:=sl
     simp only at hs
     rw [hs]
    subst hsl
    exact⟨bm,ns,nm,qn,bs,hd,sn,sub,ab,col,dd,k0,k1,k2,k3,k5,_,Z _ _ ho, .of_isNs (isNs_of_in Z hok),nsMap_none_of_in Z hok hni,tail_of_in Z ht⟩
   ·cases q
  ·cases q
 obtain⟨bm,N,nm,qn,bs,hdct,sn,sub,ab,col,dd,k0,k1,k2,k3,k5,mN,hC,hN,hni,hT⟩:=obj X.base I.ok.mod.kin
 refine wpAny_Raise_call_subT (C:=C) (nm:=nm) (q:=qn) (N:=N) (bs:=bs) (bm:=bm) (hdct:=hdct) (sn:=sn) (sub:=sub) (ab:=ab) (col:=col) (dd:=dd) (k0:=k0) (k1:=k1) (k2:=k2) (k3:=k3) (k5:=k5)
  PySem.F.excBase_ValueError (mN:=mN) (hT.hasType PySem.F.excBase_ValueError.hasBase) (I.ok.hd hc) rfl hni (nL I hg hm ⟨rfl, ?_⟩ hd)
 refine Calls.evalArgs_plain (Calls.spliced_cons (Calls.Constant_str (k:=j) (pos:=kp) (Calls.spliced_nil ⟨rfl,(show 1<=sizeLine from by decide), ?_, ?_, ?_,fun h' e M=> ?_⟩)))
 ·exact I.bk _ _ hC
 ·exact hN.keeps I.bk
 ·exact hT.keeps I.bk
 ·-- the frame is left
  have I1:Inv X pins σ H { s with toks:=s.toks+1 }:=I.tok _
  have J:Inv X pins σ H { s with heap:=h',toks:=s.toks+1 }:=I.kept (t':=s.toks+1) M.keeps
  refine T.xe _ _ ?_
  have hfr:X.A.frames=some (X.env::X.outer):=by rw [<-T.stk];exact I.ok.frames
  have ff:s.heap.FunFrames (hideAll s.heap (frs X.stack)) X.stack:=funFrames_hide I.stack fun env he a ea=>List.mem_filterMap.mpr ⟨env,he,ea⟩
  have fk:h'.FunFrames (hideAll s.heap (frs X.stack)) X.stack:=ff.of_keeps fun b o hb _=>⟨o,M.keeps b o hb,rfl⟩
  have l4:(hideAll s.heap (frs X.stack)).StaysIn s.heap:=fun b o e=>of_hideAll _ e
  have ff0:=ff
  rw [T.stk] at ff0
  have stays':(hideAll s.heap (frs (X.env::X.outer))).StaysIn s.heap:=fun b o e=>of_hideAll _ e
  refine wpAny_leaves_madeW (h:=s.heap) (base:=hideAll s.heap (frs (X.env::X.outer))) hfr T.fr stays' ff0 M fun h2 t fly _ _ up=> ?_
  refine aEf T J fly (by rw [T.stk] at fk ⊢;exact fk) (fun b o e=>M.keeps b o (of_hideAll _ e)) up (fun b o e hf=> ?_) (fun b o e=> ?_) ?_ q
  ·obtain⟨o',e1⟩:=I.base.there b o e (by rw [T.ex];simp)
   exact⟨o',hideAll_get _ e1 (by have:=x4 I e hf;rwa [T.stk] at this)⟩
  ·obtain⟨o',e1⟩:=(I.hok b o e).there
   exact⟨o',hideAll_get _ e1 fun z=>by
    have:=I.stkFree b (by rw [T.stk];exact z)
    rw [this] at e
    cases e⟩
  ·cases z:H e with
   | none=>rfl
   | some o=>
    obtain⟨o',e1⟩:=(I.hok e o z).there
    rw [M.new] at e1
    cases e1
end
section
variable {X:Cx} {ad:Ad} {pins:List (Addr×Obj)} {s:Shared} {σ:St} {H H':Hp} {B h':Heap} {ea:Addr} {cls a0:Value} {E₀:XK}
theorem aBw {M:Model} {A:Around} {E:Value->Shared->Prop} {i:Nat} {x:Str} {v:V} {Q:Unit->Shared->Prop} (I:Inv X pins σ H s) (hN:X.N.Nodup) (hi:X.N[i]? =some x) (hk:X.env.scope.names.lookup x=some .local) (hv:σ[i]? =some (some v))
  (h: ∀ s',Inv X pins (σ.set i none) H s'->Q () s'):wpAny M A (unbindName X.env x) Q E s:=by
 obtain⟨m,hn,hl⟩:=id I.loc
 have hcls:(X.env.scope.kind== .class||(X.env.scope.kind== .module&&X.env.locals != X.env.globals))=false:=by rw [I.ok.kind];rfl
 have cne:=I.cne
 obtain⟨u0,_,l0⟩:=hl i x v hi hv (.inl hk)
 have hm:m x=some u0:=by
  rcases l0 with ⟨_,e⟩ | ⟨k,_⟩
  ·exact e
  ·rcases k with k | k
   ·have:X.env.kindOf x=some .local:=hk
    rw [this] at k;cases k
   ·have:X.env.kindOf x=some .local:=hk
    rw [this] at k;cases k
 refine wpAny_unbindName_local hk hn hm hcls fun h' u hn' hs=> ?_
 obtain⟨oL,_,_,hoL,_⟩:=id hn
 refine h { s with heap:=h' } ⟨I.ok,I.os,I.bare,⟨fun b o e n hb hx=> ?_,fun b o e n hb hx=> ?_,I.base.free,fun b o e hx=> ?_,I.base.tups,I.base.frzs,I.base.tbls⟩,⟨_,hn',fun j y v' e1 e2 e3=> ?_⟩,fun y c e=> ?_,I.free,I.freeC,fun p hp=> ?_,fun b ob e=> ?_,by simpa using I.len⟩
 ·exact(hs.2 b (tZ I e)).trans (I.base.keep b o e n hb hx)
 ·obtain⟨sl,e1⟩:=I.base.slot b o e n hb hx
  exact⟨sl,(hs.2 b (tZ I e)).trans e1⟩
 ·obtain⟨o',e1⟩:=I.base.there b o e hx
  exact⟨o',(hs.2 b (tZ I e)).trans e1⟩
 ·by_cases hj:j=i
  ·subst hj
   have hlt:j<σ.length:=(aw.mp hv).1
   rw [bh hlt] at e2
   cases e2
  ·rw [az (Ne.symm hj)] at e2
   obtain⟨u',r',q⟩:=hl j y v' e1 e2 e3
   refine⟨u',r', ?_⟩
   rcases q with ⟨k,e⟩ | ⟨k,c,e,z⟩
   ·refine .inl ⟨k, ?_⟩
    have:y≠x:=fun e=>hj (nK hN e1 (e▸hi))
    simp [this,e]
   ·exact .inr ⟨k,c,e,z.sameBut hs (cne y c e)⟩
 ·obtain⟨w',z⟩:=I.cell y c e
  exact⟨w',z.sameBut hs (cne y c e)⟩
 ·obtain⟨e,n,ne,nf,d⟩:=I.pin p hp
  exact⟨(hs.2 p.1 ne).trans e,n,ne,nf,d⟩
 ·refine(I.hok b ob e).stay (fun c w' hc q=>(hs.2 c ?_).trans q) (fun _ q=>q) fun _ _ q=>q
  rintro rfl
  rcases hc with rfl | hc
  ·rw [I.free] at e;cases e
  ·rw [I.free] at hc;cases hc
theorem aNo {fs:List Addr} {h h1 h2:Heap} (un:Un fs [] H H' h h1) (l4:B.StaysIn h1) (st2:B.StaysIn h2) (up:h1.UpToSlots h2) (nf: ∀ b∈fs, ∀ o,h1.get? b=some o-> ∀ vs,o.data≠ .fields vs) (c8: ∀ b o,h.get? b=some o->b∉fs-> ∃ o',B.get? b=some o'):Un fs [] H H' h h2:=by
 have inB: ∀ b o,h1.get? b=some o->(∃ o',B.get? b=some o')->h2.get? b=some o:=fun b o e ⟨o',e'⟩=>by
  have:=l4 b o' e'
  rw [e] at this
  cases this
  exact st2 b o e'
 refine⟨fun b o e n hf hx=>inB b o (un.keep b o e n hf hx) (c8 b o e hf),fun b o e n hf hx=> ?_,un.free,fun b o e hx=> ?_,un.tups,un.frzs,un.tbls⟩
 ·obtain⟨sl,e1⟩:=un.slot b o e n hf hx
  obtain⟨sl',e2⟩:=up b _ e1 (nf b hf _ e1)
  exact⟨sl',e2⟩
 ·obtain⟨o',e1⟩:=un.there b o e hx
  by_cases hf:b∈fs
  ·obtain⟨sl,e2⟩:=up b _ e1 (nf b hf _ e1)
   exact⟨_,e2⟩
  ·exact⟨o',inB b o' e1 (c8 b o e hf)⟩
theorem aKt {P:Program} {w:World} {h1 h2:Heap} (hok:HOk P w H' h1) (l4:B.StaysIn h1) (st2:B.StaysIn h2) (c9: ∀ b o,H' b=some o-> ∃ o',B.get? b=some o'):HOk P w H' h2:=by
 have inB: ∀ b o,h1.get? b=some o->(∃ o',B.get? b=some o')->h2.get? b=some o:=fun b o e ⟨o',e'⟩=>by
  have:=l4 b o' e'
  rw [e] at this
  cases this
  exact st2 b o e'
 intro b o e
 refine(hok b o e).stay (fun c v hc e1=> ?_) (fun _ z=>z) fun _ _ z=>z
 rcases hc with rfl | hc
 ·exact inB c v e1 (c9 c o e)
 ·exact inB c v e1 (c9 c _ hc)
theorem _root_.L2.Inv.track {a:Addr} {o:HO} (J:Inv X pins σ H s) (hn:H a=none) (n0:X.s₀.heap.get? a=none) (hL:a≠X.env.locals) (hC: ∀ x c,X.env.cells.lookup x=some c->c≠a) (hp: ∀ p∈X.pn++pins,p.1≠a)
  (new:ObjOk X.prog X.w (upd H a o) s.heap a o):Inv X pins σ (upd H a o) s:=by
 refine⟨J.ok,J.os,J.bare,⟨J.base.keep,J.base.slot,fun b ob e n hx=> ?_,J.base.there,fun b xs e=> ?_,fun b ob u e=> ?_,fun b ps e=> ?_⟩,J.loc,J.cell, ?_,fun x c e=> ?_,fun p hq=> ?_,fun b u e=> ?_,J.len⟩
 ·have:b≠a:=fun z=>by rw [z,n0] at e;cases e
  rw [aM this]
  exact J.base.free b ob e n hx
 ·have e1:=J.base.tups b xs e
  rw [aM (bF e1 hn)]
  exact e1
 ·have e1:=J.base.frzs b ob u e
  rw [aM (bF e1 hn)]
  exact e1
 ·obtain⟨m,e1⟩:=J.base.tbls b ps e
  exact⟨m,by rw [aM (bF e1 hn)];exact e1⟩
 ·rw [aM (Ne.symm hL)]
  exact J.free
 ·rw [aM (hC x c e)]
  exact J.freeC x c e
 ·obtain⟨e,n,ne,nf,d⟩:=J.pin p hq
  exact⟨e,by rw [aM (hp p hq)];exact n,ne,nf,d⟩
 ·by_cases hb:b=a
  ·subst hb
   rw [a9] at e
   cases e
   exact new
  ·rw [aM hb] at e
   exact(J.hok b u e).stay (fun _ _ _ q=>q) (fun c q=>by rw [aM (bF q hn)];exact q) fun c xs q=>by rw [aM (bF q hn)];exact q
theorem _root_.SK.SS.setNo {G₀ G:Hp} {ρ:Rho} {i:Nat} {ov:Option V} (S:SS X ad G₀ G H ρ σ):SS X ad G₀ G H (ρ.set i .no) (σ.set i ov):=by
 have key: ∀ (j:Nat) (sl:Slot),(ρ.set i .no)[j]? =some sl->(j=i/\sl= .no/\i<ρ.length)\/(j≠i/\ρ[j]? =some sl):=fun j sl e=>by
  by_cases z:j=i
  ·subst z
   have hl:j<ρ.length:=by have:=(aw.mp e).1;rwa [List.length_set] at this
   rw [bh hl] at e
   cases e
   exact .inl ⟨rfl,rfl,hl⟩
  ·rw [az (Ne.symm z)] at e
   exact .inr ⟨z,e⟩
 refine⟨S.st,⟨by rw [List.length_set,List.length_set];exact S.sl.len,fun j sl e=> ?_⟩,fun j xs a e w h=> ?_,fun j j' xs ys a e e' w w' h h'=> ?_⟩
 ·rcases key j sl e with ⟨rfl,rfl,hl⟩ | ⟨z,e⟩
  ·exact⟨ov,bh (by rw [<-S.sl.len];exact hl),trivial⟩
  ·obtain⟨ov',h1,h2⟩:=S.sl.at_ j sl e
   exact⟨ov',by rw [az (Ne.symm z)];exact h1,h2⟩
 ·rcases key j _ e with ⟨_,z,_⟩ | ⟨z,e⟩
  ·subst z;exact(bd w).elim
  ·rw [az (Ne.symm z)] at h
   exact S.ow j xs a e w h
 ·rcases key j _ e with ⟨_,z,_⟩ | ⟨z,e⟩
  ·subst z;exact(bd w).elim
  ·rcases key j' _ e' with ⟨_,z',_⟩ | ⟨z',e'⟩
   ·subst z';exact(bd w').elim
   ·rw [az (Ne.symm z)] at h
    rw [az (Ne.symm z')] at h'
    exact S.dj j j' xs ys a e e' w w' h h'
end
noncomputable def tX (X:Cx) (pins:List (Addr×Obj)) (D':Ends) (hd:ExceptHandler):Cx:=
 { X with pn:=X.pn++pins,xe:=fun e s₁=>wpAny (model X.prog X.w) X.A (noteFrame e X.env) (fun _ s₂=>wpAny (model X.prog X.w) X.A (setFlight e none) (fun _ s₃=>wpAny (model X.prog X.w) X.A (handleBy e X.env [hd]) (SP X pins D') X.xe s₃) X.xe s₂) X.xe s₁ }
section
variable {X:Cx} {ad:Ad} {pins pins':List (Addr×Obj)} {s:Shared} {σ:St} {H H':Hp} {B h':Heap} {ea:Addr} {cls a0:Value} {D':Ends} {hd:ExceptHandler}
theorem aNp (I:Inv X pins σ H s):Inv (tX X pins D' hd) [] σ H s:=
 ⟨⟨I.ok.mod,I.ok.kind,I.ok.glob,I.ok.blt,I.ok.above,I.ok.inj,I.ok.has,I.ok.cab,I.ok.hd,I.ok.frames,I.ok.stk,I.ok.exf,I.ok.bs,I.ok.bsz,I.ok.noex,I.ok.exfs,I.ok.funs,I.ok.frf⟩,I.os,I.bare,I.base,I.loc,I.cell,I.free,I.freeC,
  fun p hp=>I.pin p (by have:p∈(X.pn++pins)++[]:=hp;rwa [List.append_nil] at this),I.hok,I.len⟩
theorem p7 (I:Inv (tX X pins D' hd) pins' σ H s):Inv X pins σ H s:=
 ⟨⟨I.ok.mod,I.ok.kind,I.ok.glob,I.ok.blt,I.ok.above,I.ok.inj,I.ok.has,I.ok.cab,I.ok.hd,I.ok.frames,I.ok.stk,I.ok.exf,I.ok.bs,I.ok.bsz,I.ok.noex,I.ok.exfs,I.ok.funs,I.ok.frf⟩,I.os,I.bare,I.base,I.loc,I.cell,I.free,I.freeC,
  fun p hp=>I.pin p (List.mem_append_left _ hp),I.hok,I.len⟩
structure Fram (X:Cx):Prop where
 ex:X.ex=[]
 stk:X.stack=X.env::X.outer
 fr:X.env.frame=some X.env.locals
theorem x5 {i j:Nat} {en x cx:Str} {cp xp ep ap hp':Pos} {c:Nat} (F0:Fram X) (hN:X.N.Nodup) (hi:X.N[i]? =some en) (hil:X.env.scope.names.lookup en=some .local) (hj:aIm X x j) (hij:i≠j) (hg:L2.Gl X cx) (hm:X.mg cx=some (.ref (ad.cls 0)))
  (hdb:(cx==("__debug__":Str))=false) (hde:(en==("__debug__":Str))=false) (hx:exmOne X.K (.ref (ad.cls c)) (.ref (ad.cls 0))=some true)
  (I:Inv X pins σ H s) {s':Shared} (ho:s'.os=s.os) (hgn:AllBare s'.gens) (fly:Heap.FlyingW B X.stack ea (.ref (ad.cls c)) a0 s'.heap) (un:Un (frs X.stack) [] H H' s.heap s'.heap) (hok:HOk X.prog X.w H' s'.heap) (ne:H' ea=none)
  (c8: ∀ b o,s.heap.get? b=some o->b∉frs X.stack-> ∃ o',B.get? b=some o') (c9: ∀ b o,H' b=some o-> ∃ o',B.get? b=some o')
  (q:D'.nx ((σ.set i none).set j (some (.ref ea))) (upd H' ea (aIl (ad.cls c) ea))):
  (tX X pins D' (.ExceptHandler (some (.Name cx cp)) (some en) [.Assign [.Name x xp] (.Name en ep) ap] hp')).xe (.ref ea) s':=by
 have hfr:X.A.frames=some (X.env::X.outer):=by rw [<-F0.stk];exact I.ok.frames
 have nfs: ∀ {h:Heap},h.FunFrames B X.stack-> ∀ b∈frs X.stack, ∀ o,h.get? b=some o-> ∀ vs,o.data≠ .fields vs:=fun ff b hb o e=>by
  obtain⟨_,o2,e2,nf⟩:=ff.mem (b:=b) hb
  rw [e] at e2
  cases e2
  exact nf
 -- the invariant through the stations
 have inv: ∀ h2:Heap,B.StaysIn h2->s'.heap.UpToSlots h2->Inv X pins σ H' { s' with heap:=h2 }:=fun h2 st2 up=>
  I.call' (ch:=[]) (s':={ s' with heap:=h2 }) ho (aNo un fly.1 st2 up (nfs fly.2.2.1) c8) (aKt hok fly.1 st2 c9) hgn fun b hb=>by simp at hb
 have new0:s.heap.get? ea=none:=by
  cases e:s.heap.get? ea with
  | none=>rfl
  | some o=>
   by_cases hf:ea∈frs X.stack
   ·obtain⟨oe,vs,_,_,_,he,_,hd,_⟩:=fly.2.2.2
    exact absurd hd (nfs fly.2.2.1 ea hf oe he vs)
   ·obtain⟨o',e'⟩:=c8 ea o e hf
    rw [fly.2.1] at e'
    cases e'
 show wpAny (model X.prog X.w) X.A (noteFrame (.ref ea) X.env) _ X.xe s'
 have fly0:=fly
 rw [F0.stk] at fly0
 refine wpAny_looks_onW hfr F0.fr fly0 fun h1 hheld up1=> ?_
 refine wpAny_landsW hheld fun h2 fly2 up2=> ?_
 have up12:=up1.trans up2
 have J2:=inv h2 fly2.1 up12
 refine wpAny_handleBy_cons (codeAny_handlers_test ?_) (by intro z;cases z)
 refine Calls.Name_function_global J2.ok.kind hg (Calls.loadGlobal_global (by rw [J2.ok.glob];exact J2.mod.glob.keeps J2.bk) hm ?_) hdb
 have LT:Looks (model X.prog X.w) h2 (typeOf (.ref ea)) (.ref (ad.cls c)):=by
  obtain⟨oe,vs,_,_,_,he,⟨hc,_⟩,hd,_⟩:=fly2.2.2.2
  exact hc▸(Looks.ld he).andThen .now
 refine(exm_one (K:=X.K) J2.kIn LT hx).at ?_
 show codeAny _ _ _ _ _
 refine codeAny_handlers_suite_as ?_
 refine lands_againW fly2 fun h3 fly3 up3=> ?_
 have J3:=inv h3 fly3.1 (up12.trans up3)
 have exat:nS h3 ea (ad.cls c):=by
  obtain⟨oe,vs,_,_,_,he,⟨hc,_⟩,hd,_⟩:=fly3.2.2.2
  exact⟨oe,vs,he,hc,hd⟩
 have J4:Inv X pins σ (upd H' ea (aIl (ad.cls c) ea)) { s' with heap:=h3 }:=by
  refine J3.track ne ?_ (fun z=> ?_) (fun y d hd z=> ?_) (fun p hp z=> ?_) ?_
  ·cases e:X.s₀.heap.get? ea with
   | none=>rfl
   | some o=>
    obtain⟨o',e1⟩:=I.base.there ea o e (by rw [F0.ex];simp)
    rw [new0] at e1
    cases e1
  ·obtain⟨m,hn,_⟩:=I.loc
   obtain⟨o,_,_,ho',_⟩:=hn
   rw [<-z,new0] at ho'
   cases ho'
  ·obtain⟨v,o,ho',_⟩:=I.cell y d hd
   rw [z,new0] at ho'
   cases ho'
  ·obtain⟨ho',_⟩:=I.pin p hp
   rw [z,new0] at ho'
   cases ho'
  ·obtain⟨oe,vs,he,hc,hd⟩:=exat
   refine⟨⟨oe,vs,he,hc,hd⟩,⟨oe,he⟩, ?_⟩
   rintro ha hb ⟨o1,v1,e1,e2,e3⟩ k
   exact⟨o1,v1,k _ e1,e2,e3⟩
 -- e = the exception
 refine iI J4 hN hi (.inl hil) (v:= .ref ea) rfl (fun s5 J5=> ?_) (.inr hil)
 have hlt:i<σ.length:=by rw [J4.len];exact(aw.mp hi).1
 -- x = e
 refine wpAny_execs_cons (wpAny_Assign_Name ?_ rfl)
 obtain⟨m5,hn5,hl5⟩:=J5.loc
 obtain⟨u5,r5,l5⟩:=hl5 i en (.ref ea) hi (bh hlt) (.inl hil)
 cases (show u5=Value.ref ea from r5)
 have hm5:m5 en=some (.ref ea):=by
  have hk:X.env.kindOf en=some .local:=hil
  rcases l5 with ⟨_,e⟩ | ⟨k,_⟩
  ·exact e
  ·rcases k with k | k<;>(rw [hk] at k;cases k)
 refine wpAny_Name (wpAny_loadName_local J5.ok.kind hil hn5 hm5 ?_) hde
 refine iI J5 hN hj.1 hj.2.1 (v:= .ref ea) rfl (fun s6 J6=> ?_) hj.2.2
 refine wpAny_execs_nil ?_
 -- e goes
 show wpAny _ _ (do bindName X.env en .none;unbindBehindTheSuite X.env en hp') _ _ s6
 refine aa (wpAny_bindName (iI J6 hN hi (.inl hil) (v:= .non) rfl (fun s7 J7=> ?_) (.inr hil)))
 unfold unbindBehindTheSuite
 refine wpAny_onRaise (aBw J7 hN hi hil (v:= .non) (bh (by simpa using hlt)) fun s8 J8=> ?_)
 refine⟨_,_,J8, ?_⟩
 have e1:((((σ.set i (some (.ref ea))).set j (some (.ref ea))).set i (some V.non)).set i none)=(σ.set i none).set j (some (.ref ea)):=by
  rw [List.set_set,List.set_comm _ _ hij.symm,List.set_set]
 rw [e1]
 exact q
theorem aKu {Z:(St->Nat->Hp->Prop)->Prop} {i j:Nat} {en x cx:Str} {cp xp ep ap hp' pos:Pos} {b:List Stmt} {g:FS} (F0:Fram X) (hN:X.N.Nodup) (hi:X.N[i]? =some en) (hil:X.env.scope.names.lookup en=some .local) (hj:aIm X x j) (hij:i≠j) (hg:L2.Gl X cx) (hm:X.mg cx=some (.ref (ad.cls 0)))
  (hdb:(cx==("__debug__":Str))=false) (hde:(en==("__debug__":Str))=false) (hx: ∀ c,exmOne X.K (.ref (ad.cls c)) (.ref (ad.cls 0))=some true)
  (hb: ∀ pins D',MSs (tX X pins D' (.ExceptHandler (some (.Name cx cp)) (some en) [.Assign [.Name x xp] (.Name en ep) ap] hp')) ad (fun _=>True) b g):
  MS X ad Z (.Try b [.ExceptHandler (some (.Name cx cp)) (some en) [.Assign [.Name x xp] (.Name en ep) ap] hp'] [] [] pos) (aDy i j (fun _=>true) g):=by
 intro pins s σ H D' I ⟨G₀,G,ρ,E,S,hx',hr⟩
 refine wpAny_Try_except ?_
 have main:=hb pins D' [] s σ H D' (aNp I) ⟨G₀,G,ρ,fun σ c H=> ∃ ρ' G,SS X ad G₀ G H ρ' σ/\OKo X ad G₀ (.nx ((ρ'.set i .no).set j (.sh (.exc c)))) D' E,⟨S.st,S.sl,S.ow,S.dj⟩,⟨fun σ=> ?_,trivial⟩, ?_⟩
 ·refine wpAny_mono main (fun f s1 hs=> ?_) fun e s1 he=>he
  cases f with
  | next=>obtain⟨σ',H',J,q⟩:=hs;exact wpAny_execs_nil ⟨σ',H',p7 J,q⟩
  | brk=>obtain⟨σ',H',J,q⟩:=hs;exact⟨σ',H',p7 J,q⟩
  | cont=>obtain⟨σ',H',J,q⟩:=hs;exact⟨σ',H',p7 J,q⟩
  | ret u=>obtain⟨v,σ',H',J,r,q⟩:=hs;exact⟨v,σ',H',p7 J,r,q⟩
 ·intro pins2 H2 s2 e s' I2 hc
  obtain⟨ea,cls,a0,H',B,rfl,ho,hgn,fly,un,hok,ne,c8,c9,c,rfl,ρ',G',S',ok⟩:=hc
  refine x5 F0 hN hi hil hj hij hg hm hdb hde (hx c) (p7 I2) ho hgn fly un hok ne c8 c9 ?_
  have st:Step G' H' (upd G' ea (aIl (ad.cls c) ea)) (upd H' ea (aIl (ad.cls c) ea)):=Step.new S'.st.gh ne
  refine ok _ _ _ (((S'.step st).setNo (i:=i) (ov:=none)).set ?_)
  unfold Rep
  exact⟨ea,rfl,a9⟩
 ·unfold aDy at hr
  cases e:g ρ with
  | nx ρ'=>rw [e] at hr;exact fun σ G H S=>hr σ G H ⟨S.st,S.sl,S.ow,S.dj⟩
  | bk ρ'=>rw [e] at hr;exact fun σ G H S=>hr σ G H ⟨S.st,S.sl,S.ow,S.dj⟩
  | ct ρ'=>rw [e] at hr;exact fun σ G H S=>hr σ G H ⟨S.st,S.sl,S.ow,S.dj⟩
  | ex c ρ'=>
   rw [e] at hr
   exact fun σ G H S=>⟨ρ',G,⟨S.st,S.sl,S.ow,S.dj⟩,hr⟩
  | rt r=>
   rw [e] at hr
   cases r with
   | ok d=>exact hr
   | ow xs=>exact hr
   | ex c=>exact hr
   | bad=>exact hr
theorem aBx {E₀:XK} {x:Str} {c:Nat} {np cpos pos kp:Pos} {msg:Str} {j:Nat} (T:DefX X E₀) (hc:X.calm=true) (hg:L2.Gl X x) (hm:X.mg x=some (.ref (ad.cls c))) (hd:(x==("__debug__":Str))=false) (hi:excIn X.K (ad.cls c) [.type "ValueError", .type "Exception", .type "BaseException", .type "object"] "ValueError.__new__"=true):
  MS X ad (fun E=> ∀ σ c H,E σ c H->E₀ (.ref (ad.cls c)) none H) (.Raise (some (.Call (.Name x np) [.Constant (.str msg) j kp] [] cpos)) none pos) (kP c):=by
 intro pins s σ H D' I ⟨G₀,G,ρ,E,S,hx',hr⟩
 exact aBv T hc hg hm hd hi I (hx'.2 σ c H (hr σ G H S))
end
structure ExcCls (K:Frag) (C:Addr):Prop where
 is:(clsIn K C).isSome=true
 ob:mroIn K C (.type "object")=some true
 be:mroIn K C (.type "BaseException")=some true
 ca:findIn K (.ref C) "__class__"=some (some (.builtin "object.__class__"))
 ga:findIn K (.ref C) "__getattribute__"=some (some (.builtin "BaseException.__getattribute__"))
 gn:findIn K (.ref C) "__getattr__"=some none
theorem aBy {K:Frag} {x C:Addr} (T:ExcCls K C):KitX K (.ref x) (.ref C) (fun h=>nS h x C) where
 ty:=fun _ _ _ I=>I.ty
 it:=fun _ _ Z _=>by
  obtain⟨cdD,hcD⟩:=Option.isSome_iff_exists.mp T.is
  unfold clsIn at hcD
  split at hcD
  ·rename_i c' d' cd' sl' ho
   intro A' Q' E' s' k q
   unfold isType loadHead
   exact aa (wpAny_loadPart (k _ _ (Z _ _ ho)) (ae q))
  ·cases hcD
 ne:=fun h tp dd its n sl Z htp=>by
  obtain⟨cdD,hcD⟩:=Option.isSome_iff_exists.mp T.is
  refine Bool.eq_false_iff.mpr fun q=> ?_
  have e:C=tp:=Value.ref.inj (beq_iff_eq.mp q)
  subst e
  unfold clsIn at hcD
  split at hcD
  ·rename_i c' d' cd' sl' ho
   have z:=(Z _ _ ho).symm.trans htp
   cases z
  ·cases hcD
 ca:=fun Z I k=>x3 Z I T.ob T.be T.ca T.ga T.gn k
noncomputable def tyD (ad:Ad):D->Option Value
 | .non=>some (.type "NoneType")
 | .bl _=>some (.type "bool")
 | .int _=>some (.type "int")
 | .str _=>some (.type "str")
 | .tup _=>some (.type "tuple")
 | .lst _=>some (.type "list")
 | .exc c=>some (.ref (ad.cls c))
 | .fn _=>none
def aO0 (X:Cx) (ad:Ad) (cv:Value) (p:D->Option Bool):Prop:= ∀ d b,p d=some b-> ∃ t,tyD ad d=some t/\kitOne X.K t cv=some b
section
variable {X:Cx} {ad:Ad} {pins:List (Addr×Obj)} {s:Shared} {σ:St} {H G:Hp} {ρ:Rho} {E:Nat->Hp->Prop} {pos p tp:Pos} {a:Expr} {f:F}
theorem aGr {A:Around} {Q:Value->Shared->Prop} {Ex:Value->Shared->Prop} {d:D} {v:V} {u t cv:Value} {b:Bool} (hx: ∀ c,ExcCls X.K (ad.cls c)) (I:Inv X pins σ H s) (hG:Same G H) (q:Rep X.K ad G d v) (r:b9 v u) (ht:tyD ad d=some t) (e:kitOne X.K t cv=some b)
  (h: ∀ tk,Q (.bool b) { s with toks:=tk }):wpAny (model X.prog X.w) A (call (.builtin "isinstance") [u,cv]) Q Ex s:=by
 cases d with
 | non=>unfold Rep at q;subst q;cases (show u=Value.none from r);cases ht;exact kia_one kitx_none I.kIn True.intro e (by intro z;cases z) h
 | bl k=>unfold Rep at q;subst q;cases (show u=Value.bool k from r);cases ht;exact kia_one kitx_bool I.kIn True.intro e (by intro z;cases z) h
 | int k=>unfold Rep at q;subst q;obtain⟨t',rfl⟩:=r;cases ht;exact kia_one kitx_int I.kIn True.intro e (by intro z;cases z) h
 | str k=>unfold Rep at q;subst q;obtain⟨t',rfl⟩:=r;cases ht;exact kia_one kitx_str I.kIn True.intro e (by intro z;cases z) h
 | tup ds=>
  unfold Rep at q
  obtain⟨p,vs,rfl,hp,_⟩:=q
  cases (show u=Value.ref p from r)
  cases ht
  obtain⟨its,_,⟨o,h1,h2,_⟩,_⟩:=I.tuple (hG.seqT hp)
  exact kia_one kitx_tuple I.kIn ⟨o,h1,h2⟩ e (by intro z;cases z) h
 | lst ds=>
  unfold Rep at q
  obtain⟨p,vs,rfl,hp,_⟩:=q
  cases (show u=Value.ref p from r)
  cases ht
  obtain⟨its,_,⟨o,n,h1,h2,_⟩,_⟩:=I.list (hG.seq hp)
  exact kia_one kitx_list I.kIn ⟨o,h1,h2⟩ e (by intro z;cases z) h
 | exc c=>
  unfold Rep at q
  obtain⟨p,rfl,hp⟩:=q
  cases (show u=Value.ref p from r)
  cases ht
  obtain⟨ex,_,_⟩:=(show ObjOk X.prog X.w H s.heap p (aIl (ad.cls c) p) from I.hok p _ (hG _ _ hp))
  exact kia_one (aBy (hx c)) I.kIn ex e (by intro z;cases z) h
 | fn k=>cases ht
inductive ClNm (X:Cx) (t:Str) (cv:Value):Prop
 | blt (T:String):cv= .type T->L2.Gl X t->X.mg t=none->bootBuiltins t=some (.type T)->t≠"__name__"->(t==("__debug__":Str))=false->ClNm X t cv
 | own (C:Addr):cv= .ref C->L2.Gl X t->X.mg t=some (.ref C)->(t==("__debug__":Str))=false->ClNm X t cv
theorem ClNm.ev {t:Str} {cv:Value} {Ex:Value->Shared->Prop} {Q:Value->Shared->Prop} (c:ClNm X t cv) (I:Inv X pins σ H s) (h:Q cv s):wpAny (model X.prog X.w) X.A (eval (.Name t tp) X.env) Q Ex s:=by
 cases c with
 | blt T e g m b n d=>subst e;exact gU I g m b h n d
 | own C e g m d=>subst e;exact nL I g m h d
theorem aGs {t:Str} {cv:Value} {P:D->Option Bool} (hx: ∀ c,ExcCls X.K (ad.cls c)) (hg:L2.Gl X "isinstance") (hm:X.mg "isinstance"=none) (c:ClNm X t cv) (k:aO0 X ad cv P) (ha:ME X ad a f)
  (he:starEach [a, .Name t tp] X.env=(false,eval a X.env)::starEach [.Name t tp] X.env):ME X ad (.Call (.Name "isinstance" p) [a, .Name t tp] [] pos) (rIs P f):=by
 intro pins s σ H Q I ⟨G,ρ,E,hG,hS,hx',hr⟩
 refine wpAny_Call_Name_kw (gU (u:= .builtin "isinstance") I hg hm (by decide+kernel) ?_ (by decide) (by decide))
 refine PyProof.Rows.callWith_builtin1 ?_ he rfl
 rw [he]
 refine Calls.spliced_cons (L2.thn (ha.thn I hG hS hx' hr) fun u s1 hz_=> ?_)
 obtain⟨v,d,G1,H1,I1,r1,st,q,k1⟩:=hz_
 refine Calls.spliced_cons (c.ev I1 (Calls.spliced_nil ?_))
 have k1':RK X.K ad G1 H1 (match P d with | some b=> .ok (.bl b) | none=> .bad) Q E:=k1
 cases e:P d with
 | none=>rw [e] at k1';exact k1'.elim
 | some b=>
  rw [e] at k1'
  obtain⟨ty,e1,e2⟩:=k d b e
  exact aGr hx I1 st.gh q r1 e1 e2 fun tk=>⟨.bl b,H1,I1.tok tk,rfl,k1'.ok_now st.gh bP⟩
end
noncomputable def p8:Py->Str
 | .len=>"len" | .range=>"range" | .enum=>"enumerate" | .zip=>"zip" | .isin=>"isinstance" | .int=>"int" | .bool=>"bool" | .str=>"str" | .tuple=>"tuple" | .list=>"list"
 | .sum=>"sum" | .all=>"all" | .any=>"any" | .sorted=>"sorted" | .min=>"min" | .max=>"max" | .abs=>"abs" | .set=>"set"
noncomputable def aO1 (X:Cx) (ad:Ad) (x:Str):SK.Gl->Prop
 | .fn k n F=> ∃ r f,FnGood X ad r x n F f/\Room r X.A/\f=ad.fnA k
 | .exc c=>X.mg x=some (.ref (ad.cls c))/\c<ad.nb
 | .verr=>x="ValueError"/\X.mg x=none
 | .val d=> ∃ u v,X.mg x=some u/\b9 v u/\ ∀ G,Rep X.K ad G d v
 | .py p=>x=p8 p/\X.mg x=none
structure CtxOk (X:Cx) (ad:Ad) (C:SK.Ctx):Prop where
 N:X.N=C.N
 nd:X.N.Nodup
 vis: ∀ x i,loc C x=some i->X.N[i]? =some x/\Vis X.env.scope x/\(x==("__debug__":Str))=false/\(x==("__classdict__":Str))=false
 gk: ∀ x,C.sc.names.lookup x=some .globalImplicit->L2.Gl X x
 gt: ∀ x g,C.tab.lookup x=some g->(x==("__debug__":Str))=false/\aO1 X ad x g
 cap: ∀ x i,fV C x=some i->X.env.kindOf x=some .cell\/X.env.kindOf x=some .free
 calm:X.calm=true
 un:X.A.units+62<cLine
 hd:X.A.handled=none
 exc: ∀ c,ExcCls X.K (ad.cls c)
 kin: ∀ c e,c<ad.nb->kitOne X.K (.ref (ad.cls e)) (.ref (ad.cls c))=some (hit c e)
 kve: ∀ e,kitOne X.K (.ref (ad.cls e)) (.type "ValueError")=some true
 fnv: ∀ j n F,C.fns[j]? =some (n,F)-> ∃ r,FnAt X ad r n F (ad.fnA j)/\Room r X.A
section
variable {X:Cx} {ad:Ad} {C:SK.Ctx}
theorem aGt {x:Str} {g:SK.Gl} (h:glo C x=some g):C.sc.names.lookup x=some .globalImplicit/\C.tab.lookup x=some g:=by
 unfold glo at h
 split at h
 ·rename_i e;exact⟨e,h⟩
 ·cases h
theorem CtxOk.gl (O:CtxOk X ad C) {x:Str} {g:SK.Gl} (h:glo C x=some g):L2.Gl X x/\(x==("__debug__":Str))=false/\aO1 X ad x g:=
 let ⟨a,b⟩:=aGt h
 ⟨O.gk x a,(O.gt x g b).1,(O.gt x g b).2⟩
theorem aKv {t:Str} {g:SK.Gl} {P:D->Option Bool} (O:CtxOk X ad C) (h:glo C t=some g) (e:isP g=some P): ∃ cv,ClNm X t cv/\aO0 X ad cv P:=by
 obtain⟨hg,hd,hk⟩:=O.gl h
 cases g with
 | fn _ _ _=>cases e
 | val _=>cases e
 | exc c=>
  cases e
  obtain⟨hm,hc⟩:=hk
  refine⟨.ref (ad.cls c), .own _ rfl hg hm hd,fun d b hb=> ?_⟩
  cases d<;>try (cases hb;done)
  rename_i k
  cases hb
  exact⟨_,rfl,O.kin c k hc⟩
 | verr=>
  cases e
  obtain⟨hx,hm⟩:=hk
  subst hx
  refine⟨.type "ValueError", .blt "ValueError" rfl hg hm (by decide+kernel) (by decide) hd,fun d b hb=> ?_⟩
  cases d<;>try (cases hb;done)
  rename_i k
  cases hb
  refine⟨_,rfl, ?_⟩
  rw [O.kve k]
  congr 1
  unfold hit
  simp
 | py p=>
  obtain⟨hx,hm⟩:=hk
  cases p<;>try (cases e;done)
  all_goals
   cases e
   subst hx
  ·refine⟨.type "int", .blt "int" rfl hg hm (by decide+kernel) (by decide) hd,fun d b hb=> ?_⟩
   cases d<;>first | (cases hb;done) | (cases hb;exact⟨_,rfl,by rfl⟩)
  ·refine⟨.type "bool", .blt "bool" rfl hg hm (by decide+kernel) (by decide) hd,fun d b hb=> ?_⟩
   cases d<;>first | (cases hb;done) | (cases hb;exact⟨_,rfl,by rfl⟩)
  ·refine⟨.type "str", .blt "str" rfl hg hm (by decide+kernel) (by decide) hd,fun d b hb=> ?_⟩
   cases d<;>first | (cases hb;done) | (cases hb;exact⟨_,rfl,by rfl⟩)
  ·refine⟨.type "tuple", .blt "tuple" rfl hg hm (by decide+kernel) (by decide) hd,fun d b hb=> ?_⟩
   cases d<;>first | (cases hb;done) | (cases hb;exact⟨_,rfl,by rfl⟩)
  ·refine⟨.type "list", .blt "list" rfl hg hm (by decide+kernel) (by decide) hd,fun d b hb=> ?_⟩
   cases d<;>first | (cases hb;done) | (cases hb;exact⟨_,rfl,by rfl⟩)
theorem e9 {x:Str} {k:NameKind} {l:List (Str×NameKind)} (h:(l.lookup x==some k)=true):l.lookup x=some k:=by simpa using h
theorem jC {sc:Scope} {xs:List Str} (h:kQ sc xs=true):sc.kind= .function/\(pS sc=[]\/(pS sc=xs/\xs.length=1))/\(∀ x∈xs,sc.names.lookup x=some (if(pS sc).isEmpty then .local else .cell))/\(∀ y∈sc.names,y.2= .local->sc.names.lookup y.1=some .local)/\
  (xs++bO sc).Nodup/\(∀ x∈xs++bO sc,(x==("__debug__":Str))=false/\(x==("__classdict__":Str))=false)/\ ∀ x∈bO sc,sc.names.lookup x=some .free:=by
 unfold kQ at h
 simp only [au] at h
 obtain⟨⟨⟨⟨⟨⟨h1,h2⟩,h3⟩,h4⟩,h5⟩,h6⟩,h7⟩:=h
 refine⟨by simpa using h1,by simpa using h2,fun x hx=> ?_,fun y hy z=> ?_,of_decide_eq_true h5,fun x hx=> ?_,fun x hx=> ?_⟩
 ·exact e9 (zAd h3 x hx)
 ·have:=zAd h4 y hy
  rw [z] at this
  simpa using this
 ·have:=zAd h6 x hx
  simpa using this
 ·exact e9 (zAd h7 x hx)
theorem x6 {x:Str} {N:List Str} {i:Nat} (h:idx x N=some i):x∈N:=List.mem_of_getElem? (kZ h)
theorem x8 {x:Str} {i:Nat} (h:loc C x=some i):idx x C.N=some i/\(C.sc.names.lookup x=some .local\/C.sc.names.lookup x=some .cell\/C.sc.names.lookup x=some .free):=by
 unfold loc at h
 split at h
 ·rename_i e;exact⟨h, .inl e⟩
 ·rename_i e;exact⟨h, .inr (.inl e)⟩
 ·rename_i e;exact⟨h, .inr (.inr e)⟩
 ·cases h
theorem mS {x:Str} {i:Nat} (h:fV C x=some i):idx x C.N=some i/\(C.sc.names.lookup x=some .cell\/C.sc.names.lookup x=some .free):=by
 unfold fV at h
 split at h
 ·rename_i e;exact⟨h, .inl e⟩
 ·rename_i e;exact⟨h, .inr e⟩
 ·cases h
theorem t0 {α β:Type} {f:α->Option β}: ∀ {l:List α} {r:List β},iM f l=some r-> ∀ a∈l, ∃ b,f a=some b
 | [],_,_,a,ha=>by cases ha
 | x::l,r,h,a,ha=>by
  unfold iM at h
  cases e:f x with
  | none=>rw [e] at h;cases h
  | some y=>
   rw [e] at h
   obtain⟨r',h1,_⟩:=zMd h
   rcases aq.mp ha with rfl | ha
   ·exact⟨y,e⟩
   ·exact t0 h1 a ha
theorem mT {x:Str} {k:NameKind} {l:List (Str×NameKind)} (h:l.lookup x=some k):(x,k)∈l:=PySem.mem_of_lookup h
theorem uA {x:Str} {sc:Scope} (h:(x,NameKind.free)∈sc.names):x∈bO sc:=by
 unfold bO
 exact ao.mpr ⟨(x, .free),List.mem_filter.mpr ⟨h,by simp⟩,rfl⟩
theorem x9 {sc:Scope} {xs:List Str} {cs:List Nat} (O:CtxOk X ad C) (h:kQ sc xs=true) (hc:iM (fun x=>fV C x) (bO sc)=some cs):CompSc X C sc xs cs:=by
 obtain⟨h1,h2,h3,h4,h5,h6,h7⟩:=jC h
 have hC:Cel sc:=by
  rcases h2 with z | ⟨z,l⟩
  ·exact .inl z
  ·obtain⟨x,rfl⟩:=List.length_eq_one_iff.mp l
   have:=h3 x (.head _)
   rw [z] at this
   exact .inr ⟨x,z,this⟩
 refine⟨h1,hC,h4,fun x hx=> ?_,fun x hx=>h7 x (uA hx),O.N,hc⟩
 obtain⟨i,e⟩:=t0 hc x (uA hx)
 exact O.cap x i e
theorem aGu {tg:Expr} {xs:List Str} {k:Nat} {x:Str} (hN:X.N.Nodup) (e:dU tg=some (xs,k)) (hx:xs=[x]) (h1:X.N[0]? =some x) (h2:X.env.scope.names.lookup x=some .cell) (h3:X.fn x=true):PG X tg (gTg X.K k):=by
 subst hx
 cases tg<;>try (cases e)
 ·exact i7 hN h1 (.inr h2) (.inl h3)
 ·rename_i es j px
  unfold dU at e
  obtain⟨ys,e1,e2⟩:=zBd e
  by_cases hl:2<=ys.length
  ·rw [if_pos hl] at e2
   cases e2
   exact absurd hl (by simp)
  ·rw [if_neg hl] at e2
   cases e2
theorem aKw {sc:Scope} {xs:List Str} {cs:List Nat} {s3:Shared} {H3:Hp} {fp:List Addr} {pins:List (Addr×Obj)} (O:CtxOk X ad C) (h:kQ sc xs=true) (hc:iM (fun x=>fV C x) (bO sc)=some cs):
  CtxOk (cX X (xs++bO sc) sc s3 H3 fp pins) ad { C with sc:=sc,N:=xs++bO sc }:=by
 obtain⟨h1,h2,h3,h4,h5,h6,h7⟩:=jC h
 have rl: ∀ x,(relabel sc X.env).names.lookup x=(sc.names.lookup x).map (fun k=>if(k==NameKind.free&&X.env.scope.kind== .function&&X.env.kindOf x==some .cell) then NameKind.cell else k):=fun x=>b6
 have fr: ∀ x,sc.names.lookup x=some .free->(relabel sc X.env).names.lookup x=some .cell\/(relabel sc X.env).names.lookup x=some .free:=fun x e=>by
  rw [rl x,e]
  simp only [Option.map]
  split
  ·exact .inl rfl
  ·exact .inr rfl
 have nc: ∀ x,sc.names.lookup x=some .cell->(relabel sc X.env).names.lookup x=some .cell:=fun x e=>by rw [rl x,e];rfl
 refine⟨rfl,h5,fun x i e=> ?_,fun x e=> ?_,fun x g e=> ?_,fun x i e=> ?_,O.calm,O.un,O.hd,O.exc,O.kin,O.kve,fun j n F e=>let ⟨r,T,hr⟩:=O.fnv j n F e;⟨r,⟨T.kp,T.ok⟩,hr⟩⟩
 ·obtain⟨e1,e2⟩:=x8 e
  have hm:=x6 e1
  refine⟨kZ e1, ?_,(h6 x hm).1,(h6 x hm).2⟩
  rcases e2 with e2 | e2 | e2
  ·refine .inl ?_
   show(relabel sc X.env).names.lookup x=some .local
   rw [rl x]
   have:sc.names.lookup x=some .local:=e2
   rw [this]
   rfl
  ·exact .inr (.inl (nc x e2))
  ·rcases fr x e2 with z | z
   ·exact .inr (.inl z)
   ·exact .inr (.inr z)
 ·show(relabel sc X.env).names.lookup x=some .globalImplicit
  rw [rl x]
  have:sc.names.lookup x=some .globalImplicit:=e
  rw [this]
  rfl
 ·obtain⟨e1,e2⟩:=O.gt x g e
  refine⟨e1, ?_⟩
  cases g with
  | fn k n F=>
   obtain⟨r,f,T,hr,hf⟩:=e2
   exact⟨r,f,⟨T.mg,T.kp,T.ok⟩,hr,hf⟩
  | exc c=>exact e2
  | verr=>exact e2
  | val d=>exact e2
  | py p=>exact e2
 ·obtain⟨e1,e2⟩:=mS e
  rcases e2 with e2 | e2
  ·exact .inl (nc x e2)
  ·exact fr x e2
end
section
variable {prog:Program} {w:World} {A:Around} {Ex:Value->Shared->Prop} {s:Shared}
theorem vT {it t:Addr} {i:Nat} {items:Array Value} {x:Value} {Q:Value->Shared->Prop} (hit:s.heap.IsTupleIter it t i) (ht:s.heap.IsTuple t items) (hx:items[i]? =some x)
  (hQ: ∀ h',h'.IsTupleIter it t (i+1)->Heap.SameBut it s.heap h'->Q x { s with heap:=h' }):wpAny (model prog w) A (Builtin.SmallTypes.nextOf (.ref it)) Q Ex s:=by
 obtain⟨o,o1,o2,o3⟩:=id hit
 obtain⟨u,u1,_,nu,u2⟩:=ht
 unfold Builtin.SmallTypes.nextOf
 refine aa (wpAny_callSpecial?_slot (name:=Str.ofString "__next__") hit.typeIs F.slot_tuple_iterator_next (wpAny_call_entry F.slot_tuple_iterator_next hit.typeIs F.entry_tuple_iterator_next ?_ (F.args_tuple_iterator_next_1 _)))
 show wpAny _ _ (field (.ref it) 0 >>= _) _ _ s
 refine aa (wpAny_field o1 o3 (x:= .ref t) rfl ?_)
 show wpAny _ _ (if(Value.ref t==Value.none)=true then _ else _) _ _ s;rw [if_neg (show ¬ ((Value.ref t==Value.none)=true) from bd)]
 show wpAny _ _ (field (.ref it) 1 >>= _) _ _ s
 refine aa (wpAny_field o1 o3 (x:= .int i 0) rfl ?_)
 show wpAny _ _ (seqItems? (.ref t) >>= _) _ _ s
 refine aa (wpAny_seqItems u1 u2 ?_)
 simp only [Int.toNat_natCast,hx]
 refine aa (wpAny_setField o1 o3 (by simp) (ae ⟨x,rfl,ae (hQ _ ?_ (Heap.SameBut.update ..))⟩))
 exact⟨_,Heap.get?_update_self _ o1 (Obj.isFreed_of_fields (Obj.data_mapFields o3 _)),(Obj.cls_mapFields ..).trans o2,by rw [Obj.data_mapFields o3];simp [rawInt]⟩
theorem yA {it t:Addr} {i:Nat} {items:Array Value} {Q:Value->Shared->Prop} (hh:A.handled=none) (hit:s.heap.IsTupleIter it t i) (ht:s.heap.IsTuple t items) (hx:items[i]? =none)
  (hE: ∀ h' e,Heap.ExtBut it s.heap h'->(∃ o,h'.get? e=some o/\o.cls= .type "StopIteration")->Ex (.ref e) { s with heap:=h' }):wpAny (model prog w) A (Builtin.SmallTypes.nextOf (.ref it)) Q Ex s:=by
 obtain⟨o,o1,o2,o3⟩:=id hit
 obtain⟨u,u1,_,nu,u2⟩:=ht
 unfold Builtin.SmallTypes.nextOf
 refine aa (wpAny_callSpecial?_slot (name:=Str.ofString "__next__") hit.typeIs F.slot_tuple_iterator_next (wpAny_call_entry F.slot_tuple_iterator_next hit.typeIs F.entry_tuple_iterator_next ?_ (F.args_tuple_iterator_next_1 _)))
 show wpAny _ _ (field (.ref it) 0 >>= _) _ _ s
 refine aa (wpAny_field o1 o3 (x:= .ref t) rfl ?_)
 show wpAny _ _ (if(Value.ref t==Value.none)=true then _ else _) _ _ s;rw [if_neg (show ¬ ((Value.ref t==Value.none)=true) from bd)]
 show wpAny _ _ (field (.ref it) 1 >>= _) _ _ s
 refine aa (wpAny_field o1 o3 (x:= .int i 0) rfl ?_)
 show wpAny _ _ (seqItems? (.ref t) >>= _) _ _ s
 refine aa (wpAny_seqItems u1 u2 ?_)
 simp only [Int.toNat_natCast,hx]
 refine aa (wpAny_rule (aa (wpAny_setField o1 o3 (by simp) ?_)))
 show wpAny _ _ (newExc (.type "StopIteration") [] >>= _) _ _ _
 refine aa ?_;simp only [newExc,newTuple]
 refine aa (wpAny_newObj_type ?_ (by size_fits));refine aa (m:=firstArgMember _ _) (wpAny_of_eq (a:=Value.none) (by first | rfl | (simp only [firstArgMember];rfl)) ?_)
 refine wpAny_newObj_type ?_ (by size_fits);simp only [raiseNew]
 refine aa (wpAny_handled ?_)
 first | rw [show A.in1.handled=none from hh] | rw [hh]
 refine aa (ae (wpAny_throw ?_))
 refine hE _ _ (fun b ob ne e=> ?_) ⟨_,ag _ rfl,rfl⟩
 exact af _ (af _ ((Heap.get?_update_other _ _ (Ne.symm ne)).trans e))
end
section
variable {prog:Program} {w:World} {A:Around} {Ex:Value->Shared->Prop} {s:Shared}
end
theorem yB {n l m:Nat} (a:l<n) (b:m<n):ZipApart (n+4) (n+2) (n+3) n (n+1) l m:=by
 constructor<;>(intro h;have h2:(_:Nat)=_:=h;revert h2;omega)
theorem fA {X:Cx} {pins:List (Addr×Obj)} {σ:L2.St} {H:Hp} {s:Shared} {h':Heap} {t':Nat} {fp:List Addr} (I:Inv X pins σ H s) (k: ∀ b o,b∉fp->s.heap.get? b=some o->h'.get? b=some o) (hf: ∀ b∈fp,rL X pins H b):Inv X pins σ H { s with heap:=h',toks:=t' }:=by
 have nit: ∀ b u,H b=some u->b∉fp:=fun b u e z=>by rw [(hf b z).1] at e;cases e
 refine I.step (g':=s.gens) (d':=s.drawn) (ch:=fp) (fun b hb=> ?_) (fun b o _ _ hc e _=>k b o hc e) (fun b o _ _ hc e _=>⟨o.slots,k b o hc e⟩) (fun _ _ _ _ n=>n)
  (fun b o hc e=>⟨o,k b o hc e⟩) (fun _ _ e=>e) (fun _ _ _ e=>e) (fun b ps e=>⟨#[],by rw [e];simp⟩) (fun m hm=> ?_) (fun b u e=> ?_) I.bare
 ·obtain⟨_,f1,_,f3,f4,f5⟩:=hf b hb
  exact⟨f3,f1,f4,f5⟩
 ·obtain⟨o,es,ep,ho,r⟩:=hm
  exact⟨o,es,ep,k _ o (fun z=>(hf _ z).2.1 rfl) ho,r⟩
 ·refine(I.hok b u e).stay (fun c v hc q=>k c v ?_ q) (fun _ q=>q) fun _ _ q=>q
  rcases hc with z | z
  ·rw [z];exact nit b u e
  ·exact nit c _ z
section
variable {prog:Program} {w:World} {A:Around} {Ex:Value->Shared->Prop} {s:Shared}
theorem vU {It:Heap->Nat->Prop} {e it:Addr} {i:Nat} {x old:Value} {Q:Option Value->Shared->Prop} (he:IsEnum s.heap e it i old) (hne:e≠it)
  (hn: ∀ (A':Around) (E':Value->Shared->Prop) (Q':Value->Shared->Prop),(∀ h',It h' (i+1)->Heap.SameBut it s.heap h'->Q' x { s with heap:=h' })->wpAny (model prog w) A' (Builtin.SmallTypes.nextOf (.ref it)) Q' E' s)
  (hk: ∀ h h',It h (i+1)->(∀ o,h.get? it=some o->h'.get? it=some o)->It h' (i+1))
  (hQ: ∀ h',IsEnumOut h' e it ((i:Int)+1) x s.heap.objs.size->It h' (i+1)->h'.get? s.heap.objs.size=some { cls:= .type "tuple",data:= .seq #[.int i s.toks,x] }->h'.objs.size=s.heap.objs.size+1->
   (∀ b o,b≠e->b≠it->s.heap.get? b=some o->h'.get? b=some o)->Q (some (.ref s.heap.objs.size)) { s with heap:=h',toks:=s.toks+1 }):wpAny (model prog w) A (pyNext (.ref e)) Q Ex s:=by
 have hT:s.TypeIs (.ref e) "enumerate":=⟨_,he,rfl⟩
 unfold pyNext
 refine aa (wpAny_attempt (wpAny_callSpecial?_slot (name:=Str.ofString "__next__") hT F.slot_enumerate_next (wpAny_call_entry F.slot_enumerate_next hT F.entry_enumerate_next ?_ (F.args_enumerate_next_1 _))))
 obtain⟨hp,g,d,tk,os⟩:=s
 show wpAny _ _ (field (.ref e) 2 >>= _) _ _ _
 refine aa (wpAny_field he rfl (x:= .ref it) rfl (aa (hn _ _ _ fun g1 t1 s1=> ?_)))
 replace s1:Heap.SameBut it hp g1:=s1
 have e1:IsEnum g1 e it i old:=(s1.2 e hne).trans he
 show wpAny _ _ (field (.ref e) 3 >>= _) _ _ ⟨g1,g,d,tk,os⟩
 refine aa (wpAny_field e1 rfl (x:=rawInt i) rfl ?_);show wpAny _ _ (field (.ref e) 4 >>= _) _ _ ⟨g1,g,d,tk,os⟩
 refine aa (wpAny_field e1 rfl (x:= .none) rfl ?_);show wpAny _ _ (mkInt i >>= _) _ _ ⟨g1,g,d,tk,os⟩
 refine aa (wpAny_mkInt ?_);show wpAny _ _ (setField (.ref e) 3 (rawInt ((i:Int)+1)) >>= _) _ _ ⟨g1,g,d,tk+1,os⟩
 refine aa (wpAny_setField_rec e1 (by simp) fun g2 e2 s2=> ?_)
 replace s2:Heap.SameBut e g1 g2:=s2
 replace e2:IsEnum g2 e it ((i:Int)+1) old:=e2
 show wpAny _ _ (setField (.ref e) 4 .none >>= _) _ _ ⟨g2,g,d,tk+1,os⟩
 refine aa (wpAny_setField_rec e2 (by simp) fun g3 e3 s3=> ?_)
 replace s3:Heap.SameBut e g2 g3:=s3
 replace e3:IsEnum g3 e it ((i:Int)+1) old:=e3
 show wpAny _ _ (newTuple [.int i tk,x] >>= _) _ _ ⟨g3,g,d,tk+1,os⟩
 refine aa (wpAny_newTuple ?_)
 have e4:IsEnum (g3.push { cls:= .type "tuple",data:= .seq #[.int i tk,x] }) e it ((i:Int)+1) old:=af _ e3
 generalize hg4:g3.push { cls:= .type "tuple",data:= .seq #[.int i tk,x] }=g4 at e4
 have hsz:g3.objs.size=hp.objs.size:=by rw [s3.1,s2.1,s1.1]
 have le:e<hp.objs.size:=ah he
 have t4:g4.get? hp.objs.size=some { cls:= .type "tuple",data:= .seq #[.int i tk,x] }:=by rw [<-hg4, <-hsz];exact ag _ rfl
 have z4:g4.objs.size=hp.objs.size+1:=by rw [<-hg4,ai,hsz]
 have k4: ∀ b o,b≠e->b≠it->hp.get? b=some o->g4.get? b=some o:=fun b o n1 n2 q=>by
  rw [<-hg4];exact af _ ((s3.2 b n1).trans ((s2.2 b n1).trans ((s1.2 b n2).trans q)))
 have i4:It g4 (i+1):=hk g1 g4 t1 fun o q=>by rw [<-hg4];exact af _ ((s3.2 it hne.symm).trans ((s2.2 it hne.symm).trans q))
 show wpAny _ _ (Builtin.SmallTypes.ownedTupleIsFree (.ref e) >>= _) _ _ ⟨g4,g,d,tk+1,os⟩
 rw [hsz]
 refine aa ?_;unfold Builtin.SmallTypes.ownedTupleIsFree
 refine aa (wpAny_field e4 rfl (x:= .none) rfl (ae ?_));simp only [if_true]
 refine aa (wpAny_rule (aa (wpAny_field e4 rfl (x:=old) rfl (aa (wpAny_setField_rec e4 (by simp) fun g5 e5 s5=> ?_)))))
 replace s5:Heap.SameBut e g4 g5:=s5
 replace e5:IsEnum g5 e it ((i:Int)+1) x:=e5
 show wpAny _ _ (Builtin.SmallTypes.ownedTupleHandOut (.ref e) (.ref hp.objs.size) >>= _) _ _ ⟨g5,g,d,tk+1,os⟩
 refine aa ?_;unfold Builtin.SmallTypes.ownedTupleHandOut
 refine aa (wpAny_setField_rec e5 (by simp) fun g6 e6 s6=> ?_)
 replace s6:Heap.SameBut e g5 g6:=s6
 replace e6:IsEnumOut g6 e it ((i:Int)+1) x hp.objs.size:=e6
 refine wpAny_setField_rec e6 (by simp) fun g7 e7 s7=> ?_
 replace s7:Heap.SameBut e g6 g7:=s7
 replace e7:IsEnumOut g7 e it ((i:Int)+1) x hp.objs.size:=e7
 have up: ∀ b o,b≠e->g4.get? b=some o->g7.get? b=some o:=fun b o n q=>(s7.2 b n).trans ((s6.2 b n).trans ((s5.2 b n).trans q))
 refine aa (wpAny_letGo (ae ⟨_,rfl,ae (hQ g7 e7 (hk g4 g7 i4 fun o q=>up it o hne.symm q) (up _ _ (Nat.ne_of_gt le) t4) ?_ fun b o n1 n2 q=>up b o n1 (k4 b o n1 n2 q))⟩))
 rw [s7.1,s6.1,s5.1,z4]
theorem yC {e it:Addr} {i:Nat} {old:Value} {Q:Option Value->Shared->Prop} (he:IsEnum s.heap e it i old)
  (hn: ∀ (A':Around) (E':Value->Shared->Prop) (Q':Value->Shared->Prop),A'.handled=A.handled->(∀ h' x,Heap.ExtBut it s.heap h'->(∃ o,h'.get? x=some o/\o.cls= .type "StopIteration")->E' (.ref x) { s with heap:=h' })->wpAny (model prog w) A' (Builtin.SmallTypes.nextOf (.ref it)) Q' E' s)
  (hQ: ∀ h',Heap.ExtBut it s.heap h'->Q none { s with heap:=h' }):wpAny (model prog w) A (pyNext (.ref e)) Q Ex s:=by
 have hT:s.TypeIs (.ref e) "enumerate":=⟨_,he,rfl⟩
 unfold pyNext
 refine aa (wpAny_attempt (wpAny_callSpecial?_slot (name:=Str.ofString "__next__") hT F.slot_enumerate_next (wpAny_call_entry F.slot_enumerate_next hT F.entry_enumerate_next ?_ (F.args_enumerate_next_1 _))))
 show wpAny _ _ (field (.ref e) 2 >>= _) _ _ _
 refine aa (wpAny_field he rfl (x:= .ref it) rfl (aa (hn _ _ _ rfl fun h' x k q=> ?_)))
 obtain⟨o,ho,hc⟩:=q
 exact aa (wpAny_isInstance (T:="StopIteration") (b:=true) ⟨o,ho,hc⟩ isSubtype_stop (ae (hQ _ k)))
end
noncomputable abbrev eh (h:Heap) (T:String) (l:Addr):Heap:=(h.push { cls:= .type T,data:= .fields #[.ref l, .int 0 0] }).push { cls:= .type "enumerate",data:= .fields #[.none, .bool false, .ref h.objs.size,rawInt 0, .none, .none] }
open AutoSeq1 (wpAny_loadPart') in
theorem yD (l:Addr) (xs:Array Value) (n:Nat) (dd:Option Addr) (sl:Array (Option Value)):Meets (Builtin.«enumerate.__new__» ⟨[.type "enumerate", .ref l],[]⟩) (fun _ R s=>s.heap.get? l=some { cls:= .type "tuple",dict:=dd,data:= .seq xs n,slots:=sl }/\
  R (.ok (.ret (.ref (s.heap.objs.size+1)))) { s with heap:=eh s.heap "tuple_iterator" l }):=
 .of_wp fun prog w A R s h=>by
  obtain⟨hp,g,d,tk,os⟩:=s
  obtain⟨hl,h⟩:=h
  have hsub:=sub_enumerate
  have q1:Heap.IsTuple (Shared.heap ⟨hp,g,d,tk,os⟩) l xs:=⟨_,hl,rfl,n,rfl⟩
  rw [<-show(hp.push { cls:= .type "tuple_iterator",data:= .fields #[.ref l, .int 0 0] }).objs.size=hp.objs.size+1 from ai ..] at h
  wp_walk using wpAny_loadPart' hl
  refine wpAny_stack_any fun st=>ae ?_
  split
  ·rename_i c _ _ _ _ _
   cases (c==Value.type "enumerate")
   ·wp_walk using wpAny_loadPart' hl,wpAny_pyIter_tuple q1
    exact⟨_,rfl,h⟩
   ·wp_walk using wpAny_loadPart' hl,wpAny_pyIter_tuple q1
    exact⟨_,rfl,h⟩
  ·wp_walk using wpAny_loadPart' hl,wpAny_pyIter_tuple q1
   exact⟨_,rfl,h⟩
open AutoSeq1 (wpAny_loadPart') in
theorem yE (l:Addr) (xs:Array Value) (n:Nat) (dd:Option Addr) (sl:Array (Option Value)):Meets (Builtin.«enumerate.__new__» ⟨[.type "enumerate", .ref l],[]⟩) (fun _ R s=>s.heap.get? l=some { cls:= .type "list",dict:=dd,data:= .seq xs n,slots:=sl }/\
  R (.ok (.ret (.ref (s.heap.objs.size+1)))) { s with heap:=eh s.heap "list_iterator" l }):=
 .of_wp fun prog w A R s h=>by
  obtain⟨hp,g,d,tk,os⟩:=s
  obtain⟨hl,h⟩:=h
  have hsub:=sub_enumerate
  have q1:Heap.IsList (Shared.heap ⟨hp,g,d,tk,os⟩) l xs:=⟨_,hl,rfl,n,rfl⟩
  rw [<-show(hp.push { cls:= .type "list_iterator",data:= .fields #[.ref l, .int 0 0] }).objs.size=hp.objs.size+1 from ai ..] at h
  wp_walk using wpAny_loadPart' hl
  refine wpAny_stack_any fun st=>ae ?_
  split
  ·rename_i c _ _ _ _ _
   cases (c==Value.type "enumerate")
   ·wp_walk using wpAny_loadPart' hl,wpAny_pyIter_list q1
    exact⟨_,rfl,h⟩
   ·wp_walk using wpAny_loadPart' hl,wpAny_pyIter_list q1
    exact⟨_,rfl,h⟩
  ·wp_walk using wpAny_loadPart' hl,wpAny_pyIter_list q1
   exact⟨_,rfl,h⟩
section
variable {prog:Program} {w:World} {A:Around} {Ex:Value->Shared->Prop} {s:Shared}
theorem vV {l:Addr} {xs:Array Value} {Q:Value->Shared->Prop} (hl:s.heap.IsTuple l xs)
  (h: ∀ h',IsEnum h' (s.heap.objs.size+1) s.heap.objs.size 0 .none->h'.IsTupleIter s.heap.objs.size l 0->h'.objs.size=s.heap.objs.size+2->(∀ b o,s.heap.get? b=some o->h'.get? b=some o)->Q (.ref (s.heap.objs.size+1)) { s with heap:=h' }):
  wpAny (model prog w) A (call (.type "enumerate") [.ref l]) Q Ex s:=by
 obtain⟨⟨c,dd,da,sl⟩,e1,e2,n,e3⟩:=hl
 simp only at e2 e3;subst e2 e3
 refine callType_new F.called_enumerate (by decide) (F.typeCall_enumerate_1 _) (F.newCall_enumerate_1 _) (fun obj=>F.args_object_init_2 obj _) F.entry_enumerate_new (yD l xs n dd sl) ⟨e1, ?_⟩
 have hz:(s.heap.push { cls:= .type "tuple_iterator",data:= .fields #[.ref l, .int 0 0] }).objs.size=s.heap.objs.size+1:=ai ..
 have he:IsEnum (eh s.heap "tuple_iterator" l) (s.heap.objs.size+1) s.heap.objs.size 0 .none:=by rw [<-hz];exact ag _ rfl
 exact⟨⟨_,he,rfl⟩,h _ he ⟨_,af _ (ag _ rfl),rfl,rfl⟩ (by rw [ai,hz]) fun b o x=>af _ (af _ x)⟩
theorem vW {l:Addr} {xs:Array Value} {Q:Value->Shared->Prop} (hl:s.heap.IsList l xs)
  (h: ∀ h',IsEnum h' (s.heap.objs.size+1) s.heap.objs.size 0 .none->h'.IsListIter s.heap.objs.size l 0->h'.objs.size=s.heap.objs.size+2->(∀ b o,s.heap.get? b=some o->h'.get? b=some o)->Q (.ref (s.heap.objs.size+1)) { s with heap:=h' }):
  wpAny (model prog w) A (call (.type "enumerate") [.ref l]) Q Ex s:=by
 obtain⟨⟨c,dd,da,sl⟩,e1,e2,n,e3⟩:=hl
 simp only at e2 e3;subst e2 e3
 refine callType_new F.called_enumerate (by decide) (F.typeCall_enumerate_1 _) (F.newCall_enumerate_1 _) (fun obj=>F.args_object_init_2 obj _) F.entry_enumerate_new (yE l xs n dd sl) ⟨e1, ?_⟩
 have hz:(s.heap.push { cls:= .type "list_iterator",data:= .fields #[.ref l, .int 0 0] }).objs.size=s.heap.objs.size+1:=ai ..
 have he:IsEnum (eh s.heap "list_iterator" l) (s.heap.objs.size+1) s.heap.objs.size 0 .none:=by rw [<-hz];exact ag _ rfl
 exact⟨⟨_,he,rfl⟩,h _ he ⟨_,af _ (ag _ rfl),rfl,rfl⟩ (by rw [ai,hz]) fun b o x=>af _ (af _ x)⟩
end
def SqA (t:Bool) (K:PySem.W.Frag) (H:Hp) (a:Addr) (xs:List V):Prop:=match t with
 | true=>SqT K H a xs
 | false=>SqL K H a xs
def ItA (t:Bool) (h:Heap) (it l:Addr) (i:Nat):Prop:=match t with
 | true=>h.IsTupleIter it l i
 | false=>h.IsListIter it l i
def SeA (t:Bool) (h:Heap) (l:Addr) (xs:Array Value):Prop:=match t with
 | true=>h.IsTuple l xs
 | false=>h.IsList l xs
section
variable {X:Cx} {pins:List (Addr×Obj)} {σ:L2.St} {H:Hp} {s:Shared} {t:Bool}
theorem fQ {a:Addr} {xs:List V} (I:Inv X pins σ H s) (h:SqA t X.K H a xs): ∃ its:List Value,bI xs its/\SeA t s.heap a its.toArray/\xs.length<=sizeLine:=by
 cases t with
 | true=>
  obtain⟨its,r,p,z⟩:=I.tuple h
  exact⟨its,r,p,z⟩
 | false=>
  obtain⟨its,r,p,z⟩:=I.list h
  exact⟨its,r,p.isList,z⟩
theorem hV {a:Addr} {xs ys:List V} (I:Inv X pins σ H s) (h:SqA t X.K H a xs) (h':SqA t X.K H a ys):xs=ys:=by
 cases t with
 | true=>exact I.tuple_inj h h'
 | false=>exact I.list_inj h h'
theorem bE {K:PySem.W.Frag} {H H':Hp} {a:Addr} {xs:List V} (e:Same H H') (h:SqA t K H a xs):SqA t K H' a xs:=by
 cases t with
 | true=>exact e.seqT h
 | false=>exact e.seq h
theorem cY {h h':Heap} {it l:Addr} {i:Nat} (q:ItA t h it l i) (k: ∀ o,h.get? it=some o->h'.get? it=some o):ItA t h' it l i:=by
 cases t with
 | true=>obtain⟨o,e,r⟩:=q;exact⟨o,k o e,r⟩
 | false=>obtain⟨o,e,r⟩:=q;exact⟨o,k o e,r⟩
theorem yF {h:Heap} {it l:Addr} {i:Nat} (q:ItA t h it l i): ∃ o,h.get? it=some o/\ ∀ v,o.data≠ .cell v:=by
 cases t with
 | true=>obtain⟨o,e,_,d⟩:=q;exact⟨o,e,fun v z=>by rw [d] at z;cases z⟩
 | false=>obtain⟨o,e,_,d⟩:=q;exact⟨o,e,fun v z=>by rw [d] at z;cases z⟩
theorem gO {prog:Program} {w:World} {A:Around} {Ex:Value->Shared->Prop} {it l:Addr} {i:Nat} {xs:Array Value} {x:Value} {Q:Value->Shared->Prop} (q:ItA t s.heap it l i) (hl:SeA t s.heap l xs) (hx:xs[i]? =some x)
  (hQ: ∀ h',ItA t h' it l (i+1)->Heap.SameBut it s.heap h'->Q x { s with heap:=h' }):wpAny (model prog w) A (Builtin.SmallTypes.nextOf (.ref it)) Q Ex s:=by
 cases t with
 | true=>exact vT q hl hx hQ
 | false=>exact wpAny_nextOf_list_item q hl hx hQ
theorem k9 {prog:Program} {w:World} {A:Around} {Ex:Value->Shared->Prop} {it l:Addr} {i:Nat} {xs:Array Value} {Q:Value->Shared->Prop} (hh:A.handled=none) (q:ItA t s.heap it l i) (hl:SeA t s.heap l xs) (hx:xs[i]? =none)
  (hE: ∀ h' e,Heap.ExtBut it s.heap h'->(∃ o,h'.get? e=some o/\o.cls= .type "StopIteration")->Ex (.ref e) { s with heap:=h' }):wpAny (model prog w) A (Builtin.SmallTypes.nextOf (.ref it)) Q Ex s:=by
 cases t with
 | true=>exact yA hh q hl hx hE
 | false=>exact wpAny_nextOf_list_end hh q hl hx hE
end
noncomputable def Ite (t:Bool) (K:PySem.W.Frag) (l:Addr):It:=
 ⟨fun i H=> ∃ xs x,SqA t K H l xs/\xs[i]? =some x,
  fun i H v H'=> ∃ p x,H p=none/\v= .ref p/\(∀ xs,SqA t K H l xs->xs[i]? =some x)/\H'=upd H p (.tup [.int i,x]),
  fun i H=> ∃ xs,SqA t K H l xs/\xs.length<=i⟩
theorem yG {P:Program} {w:World} {K:PySem.W.Frag} {es:List Expr} {x1} {tp:Pos} {t:Bool} {e it l:Addr} (hne:e≠it):
  Turn P w K (.Tuple es x1 tp) (Ite t K l) [e,it] e (fun i h=>(∃ old,IsEnum h e it i old)/\ItA t h it l i) where
 mem:=by simp
 obj:=fun i h st b hb=>by
  obtain⟨⟨old,z1⟩,z2⟩:=st
  simp only [aq,List.not_mem_nil,or_false] at hb
  rcases hb with rfl | rfl
  ·exact⟨_,z1,fun v e=>by cases e⟩
  ·exact yF z2
 keep:=fun i h h' st k=>by
  obtain⟨⟨old,z1⟩,z2⟩:=st
  exact⟨⟨old,k _ (by simp) _ z1⟩,cY z2 fun o q=>k _ (by simp) o q⟩
 item:=by
  intro X hP hw hK hc i pins s σ H E I hf st hg
  subst hP hw hK
  obtain⟨xs,x,q1,hx⟩:=hg
  obtain⟨us,r1,p1,_⟩:=fQ I q1
  obtain⟨u,hu,ru⟩:=r1.get hx
  obtain⟨⟨old,z1⟩,z2⟩:=st
  have te:e<s.heap.objs.size:=ah z1
  have ti:it<s.heap.objs.size:=by obtain⟨o,q,_⟩:=yF z2;exact ah q
  refine vU (It:=fun h j=>ItA t h it l j) (x:=u) z1 hne (fun A' E' Q' hq=>gO z2 p1 (by simpa using hu) hq) (fun h h' a k=>cY a k) fun h' a1 a2 a3 a4 a5=>⟨_,rfl, ?_⟩
  have hfr:H s.heap.objs.size=none:=I.hok.fresh (aj _)
  have Ia:Inv X pins σ (upd H s.heap.objs.size (.tup [.int i,x])) { s with heap:=s.heap.push { cls:= .type "tuple",data:= .seq #[.int i s.toks,u] },toks:=s.toks+1 }:=
   I.laid (t':=s.toks+1) (fun b o e=>af _ e) (aj _) (show ObjOk X.prog X.w _ _ _ (.tup [.int i,x]) from⟨by rw [sizeLine_eq];simp,[.int i s.toks,u], .cons ⟨_,rfl⟩ (.cons ru .nil),⟨_,ag _ rfl,rfl,_,rfl⟩,⟨_,ag _ rfl,rfl⟩⟩)
  have hnew: ∀ b∈[e,it],b≠s.heap.objs.size:=fun b hb=>by
   simp only [aq,List.not_mem_nil,or_false] at hb
   rcases hb with rfl | rfl
   ·exact bg te
   ·exact bg ti
  have hf2: ∀ b∈[e,it],rL X pins (upd H s.heap.objs.size (.tup [.int i,x])) b:=fun b hb=>⟨by rw [aM (hnew b hb)];exact(hf b hb).1,(hf b hb).2⟩
  have Ib:Inv X pins σ (upd H s.heap.objs.size (.tup [.int i,x])) { s with heap:=h',toks:=s.toks+1 }:=by
   refine fA (s:={ s with heap:=s.heap.push { cls:= .type "tuple",data:= .seq #[.int i s.toks,u] },toks:=s.toks+1 }) (t':=s.toks+1) Ia (fun b o hb q=> ?_) hf2
   simp only [aq,List.not_mem_nil,or_false,not_or] at hb
   by_cases hq:b=s.heap.objs.size
   ·subst hq
    rw [show(s.heap.push { cls:= .type "tuple",data:= .seq #[.int i s.toks,u] }).get? s.heap.objs.size=some _ from ag _ rfl] at q
    cases q
    exact a3
   ·exact a5 b o hb.1 hb.2 ((Heap.get?_push_ne _ b _ hq).symm.trans q)
  refine wpAny_letOwnedTupleGo_enum a1 fun h2 b1 b2=> ?_
  have Ic:Inv X pins σ (upd H s.heap.objs.size (.tup [.int i,x])) { s with heap:=h2,toks:=s.toks+1 }:=fA (s:={ s with heap:=h',toks:=s.toks+1 }) (t':=s.toks+1) Ib (fun b o hb q=>(b2.2 b (fun z=>hb (by simp [z]))).trans q) hf2
  refine⟨.ref s.heap.objs.size,_,Ic,rfl,⟨_,x,hfr,rfl,fun xs' hx'=>by rw [hV I hx' q1];exact hx,rfl⟩,⟨⟨u, ?_⟩,cY a2 fun o q=>(b2.2 it hne.symm).trans q⟩,fun b hb=>(hf2 b hb).1⟩
  rw [Int.natCast_add];exact b1
 done:=by
  intro X hP hw hK hc i pins s σ H E I hf st hg
  subst hP hw hK
  obtain⟨xs,q1,hx⟩:=hg
  obtain⟨us,r1,p1,_⟩:=fQ I q1
  obtain⟨⟨old,z1⟩,z2⟩:=st
  have n1:=r1.length
  refine yC z1 (fun A' E' Q' ha hq=>k9 (ha.trans (I.ok.hd hc)) z2 p1 (by simp;omega) hq) fun h' k=>⟨rfl,fA (t':=s.toks) I (fun b o hb q=> ?_) hf⟩
  simp only [aq,List.not_mem_nil,or_false,not_or] at hb
  exact k b o hb.2 q
 self:=fun _ _ _ _ _ st h=>by
  obtain⟨⟨old,z1⟩,_⟩:=st
  exact wpAny_pyIter_enum z1 h
theorem vX {prog:Program} {w:World} {A:Around} {Ex:Value->Shared->Prop} {s:Shared} {t:Bool} {l:Addr} {xs:Array Value} {Q:Value->Shared->Prop} (hl:SeA t s.heap l xs)
  (h: ∀ h',IsEnum h' (s.heap.objs.size+1) s.heap.objs.size 0 .none->ItA t h' s.heap.objs.size l 0->h'.objs.size=s.heap.objs.size+2->(∀ b o,s.heap.get? b=some o->h'.get? b=some o)->Q (.ref (s.heap.objs.size+1)) { s with heap:=h' }):
  wpAny (model prog w) A (call (.type "enumerate") [.ref l]) Q Ex s:=by
 cases t with
 | true=>exact vV hl h
 | false=>exact vW hl h
theorem yH {t:Bool} {h h':Heap} {l:Addr} {it:Array Value} (q:SeA t h l it) (k: ∀ o,h.get? l=some o->h'.get? l=some o):SeA t h' l it:=by
 cases t with
 | true=>obtain⟨o,e1,e2⟩:=q;exact⟨o,k o e1,e2⟩
 | false=>obtain⟨o,e1,e2⟩:=q;exact⟨o,k o e1,e2⟩
theorem oD {t:Bool} {h:Heap} {it l:Addr} {k:Nat} (x:ItA t h it l k): ∃ o,h.get? it=some o/\o.data= .fields #[.ref l, .int k 0]:=by
 cases t with
 | true=>obtain⟨o,a,_,c⟩:=x;exact⟨o,a,c⟩
 | false=>obtain⟨o,a,_,c⟩:=x;exact⟨o,a,c⟩
section
variable {prog:Program} {w:World} {A:Around} {Ex:Value->Shared->Prop} {s:Shared} {t t2:Bool}
theorem yI {z TI TO i1 i2 l1 l2:Addr} {k1 k2:Nat} {xs ys:Array Value} {x y a b:Value} {Q:Option Value->Shared->Prop} (D:ZipApart z TI TO i1 i2 l1 l2) (hz:IsZip s.heap z TI TO .none) (hTI:IsPair s.heap TI (.ref i1) (.ref i2)) (hTO:IsPair s.heap TO a b)
  (h1:ItA t s.heap i1 l1 k1) (h2:ItA t2 s.heap i2 l2 k2) (hl1:SeA t s.heap l1 xs) (hl2:SeA t2 s.heap l2 ys) (hx:xs[k1]? =some x) (hy:ys[k2]? =some y)
  (hQ: ∀ h',IsZip h' z TI TO (rawInt s.heap.objs.size)->IsPair h' TO x y->ItA t h' i1 l1 (k1+1)->ItA t2 h' i2 l2 (k2+1)->IsPair h' s.heap.objs.size x y->h'.objs.size=s.heap.objs.size+1->
   (∀ c o,c≠z->c≠TO->c≠i1->c≠i2->s.heap.get? c=some o->h'.get? c=some o)->Q (some (.ref s.heap.objs.size)) { s with heap:=h' }):wpAny (model prog w) A (pyNext (.ref z)) Q Ex s:=by
 have hT:s.TypeIs (.ref z) "zip":=⟨_,hz,rfl⟩
 have isT: ∀ {t:Bool} {h h':Heap} {it l:Addr} {k:Nat} {c:Addr},ItA t h it l k->Heap.SameBut c h h'->it≠c->ItA t h' it l k:=fun q sb ne=>cY q fun o e=>(sb.2 _ ne).trans e
 have isU: ∀ {t:Bool} {h h':Heap} {l:Addr} {it:Array Value} {c:Addr},SeA t h l it->Heap.SameBut c h h'->l≠c->SeA t h' l it:=fun q sb ne=>yH q fun o e=>(sb.2 _ ne).trans e
 unfold pyNext
 refine aa (wpAny_attempt (wpAny_callSpecial?_slot (name:=Str.ofString "__next__") hT F.slot_zip_next (wpAny_call_entry F.slot_zip_next hT F.entry_zip_next ?_ (F.args_zip_next_1 _))))
 show wpAny _ _ (field (.ref z) 2 >>= _) _ _ _
 refine aa (wpAny_field hz rfl (x:= .bool false) rfl ?_)
 show wpAny _ _ (field (.ref z) 3 >>= _) _ _ _
 refine aa (wpAny_field hz rfl (x:= .ref TI) rfl (aa (wpAny_seqItems hTI rfl ?_)))
 show wpAny _ _ (Builtin.SmallTypes.ownedTupleIsFree (.ref z) >>= _) _ _ _
 refine aa ?_;unfold Builtin.SmallTypes.ownedTupleIsFree
 refine aa (wpAny_field hz rfl (x:= .none) rfl (ae ?_));simp only [if_true]
 refine aa (wpAny_rule (aa (wpAny_field hz rfl (x:= .ref TO) rfl (aa (wpAny_setField_rec hz (by simp) fun g1 z1 s1=> ?_)))))
 replace z1:IsZip g1 z TI TO .ellipsis:=z1
 refine aa ?_;simp only [List.zipIdx_cons,List.zipIdx_nil,List.forIn_cons,List.forIn_nil]
 refine aa (aa (wpAny_onRaise ?_));show wpAny _ _ (Builtin.SmallTypes.nextOf (.ref i1) >>= _) _ _ _
 refine aa (gO (isT h1 s1 D.i1z) (isU hl1 s1 D.l1z) hx fun g2 p2 s2=>ae ?_)
 have o2:IsPair g2 TO a b:=(s2.2 _ D.TOi1).trans ((s1.2 _ D.TOz).trans hTO)
 refine aa (wpAny_seqItems o2 rfl (aa (wpAny_updateSeq_pair o2 fun g3 o3 s3=> ?_)))
 replace o3:IsPair g3 TO x b:=o3
 refine aa (wpAny_letGo (ae (aa (aa (wpAny_onRaise ?_)))));show wpAny _ _ (Builtin.SmallTypes.nextOf (.ref i2) >>= _) _ _ _
 refine aa (gO (isT (isT (isT h2 s1 D.i2z) s2 D.i12.symm) s3 D.TOi2.symm) (isU (isU (isU hl2 s1 D.l2z) s2 D.l2i1) s3 D.l2TO) hy fun g4 p4 s4=>ae ?_)
 have o4:IsPair g4 TO x b:=(s4.2 _ D.TOi2).trans o3
 refine aa (wpAny_seqItems o4 rfl (aa (wpAny_updateSeq_pair o4 fun g5 o5 s5=> ?_)))
 replace o5:IsPair g5 TO x y:=o5
 refine aa (wpAny_letGo (ae (ae (aa (wpAny_seqItems o5 rfl (aa (wpAny_newTuple ?_)))))))
 have hsz:g5.objs.size=s.heap.objs.size:=by rw [s5.1,s4.1,s3.1,s2.1,s1.1]
 have z5:IsZip g5 z TI TO .ellipsis:=(s5.2 _ D.TOz.symm).trans ((s4.2 _ D.i2z.symm).trans ((s3.2 _ D.TOz.symm).trans ((s2.2 _ D.i1z.symm).trans z1)))
 have k5: ∀ c o,c≠z->c≠TO->c≠i1->c≠i2->s.heap.get? c=some o->g5.get? c=some o:=fun c o c1 c2 c3 c4 e=>(s5.2 _ c2).trans ((s4.2 _ c4).trans ((s3.2 _ c2).trans ((s2.2 _ c3).trans ((s1.2 _ c1).trans e))))
 have q1:ItA t g5 i1 l1 (k1+1):=isT (isT (isT p2 s3 D.TOi1.symm) s4 D.i12) s5 D.TOi1.symm
 have q2:ItA t2 g5 i2 l2 (k2+1):=isT p4 s5 D.TOi2.symm
 have lz:z<g5.objs.size:=ah z5
 show wpAny _ _ (Builtin.SmallTypes.ownedTupleHandOut (.ref z) (.ref g5.objs.size) >>= _) _ _ _
 refine aa ?_;unfold Builtin.SmallTypes.ownedTupleHandOut
 have z6:IsZip (g5.push { cls:= .type "tuple",data:= .seq #[x,y] }) z TI TO .ellipsis:=af _ z5
 refine aa (wpAny_setField_rec z6 (by simp) fun g7 z7 s7=> ?_)
 replace z7:IsZip g7 z TI TO (rawInt g5.objs.size):=z7
 refine wpAny_setField_rec z7 (by simp) fun g8 z8 s8=> ?_
 replace z8:IsZip g8 z TI TO (rawInt g5.objs.size):=z8
 have up: ∀ c o,c≠z->g5.get? c=some o->g8.get? c=some o:=fun c o c1 e=>(s8.2 _ c1).trans ((s7.2 _ c1).trans (af _ e))
 have t8:IsPair g8 g5.objs.size x y:=(s8.2 _ (Nat.ne_of_gt lz)).trans ((s7.2 _ (Nat.ne_of_gt lz)).trans (ag _ rfl))
 have n8:g8.objs.size=g5.objs.size+1:=by rw [s8.1,s7.1,ai]
 rw [hsz] at z8 t8 n8
 refine ae ⟨_,rfl,ae ?_⟩
 show Q (some (.ref g5.objs.size)) _;rw [hsz]
 refine hQ g8 z8 (up _ _ D.TOz o5) ?_ ?_ t8 n8 fun c o c1 c2 c3 c4 e=>up c o c1 (k5 c o c1 c2 c3 c4 e)
 ·exact cY q1 fun o e=>up _ o D.i1z e
 ·exact cY q2 fun o e=>up _ o D.i2z e
theorem aBz {z TI TO i1 i2 l1 l2:Addr} {k1 k2:Nat} {xs ys:Array Value} {a b:Value} {Q:Option Value->Shared->Prop} (hh:A.handled=none) (D:ZipApart z TI TO i1 i2 l1 l2) (hz:IsZip s.heap z TI TO .none) (hTI:IsPair s.heap TI (.ref i1) (.ref i2)) (hTO:IsPair s.heap TO a b)
  (h1:ItA t s.heap i1 l1 k1) (h2:ItA t2 s.heap i2 l2 k2) (hl1:SeA t s.heap l1 xs) (hl2:SeA t2 s.heap l2 ys) (he:xs[k1]? =none\/ys[k2]? =none)
  (hQ: ∀ h',(∀ c o,c≠z->c≠TO->c≠i1->c≠i2->s.heap.get? c=some o->h'.get? c=some o)->Q none { s with heap:=h' }):wpAny (model prog w) A (pyNext (.ref z)) Q Ex s:=by
 have hT:s.TypeIs (.ref z) "zip":=⟨_,hz,rfl⟩
 have isT: ∀ {t:Bool} {h h':Heap} {it l:Addr} {k:Nat} {c:Addr},ItA t h it l k->Heap.SameBut c h h'->it≠c->ItA t h' it l k:=fun q sb ne=>cY q fun o e=>(sb.2 _ ne).trans e
 have isU: ∀ {t:Bool} {h h':Heap} {l:Addr} {it:Array Value} {c:Addr},SeA t h l it->Heap.SameBut c h h'->l≠c->SeA t h' l it:=fun q sb ne=>yH q fun o e=>(sb.2 _ ne).trans e
 unfold pyNext
 have fin: ∀ (h':Heap) (e:Addr),(∀ c o,c≠z->c≠TO->c≠i1->c≠i2->s.heap.get? c=some o->h'.get? c=some o)->(∃ o,h'.get? e=some o/\o.cls= .type "StopIteration")->wpAny (model prog w) A (do if(<-isInstance (.ref e) (.type "StopIteration"))=true then pure none else throw (.ref e)) Q Ex { s with heap:=h' }:=fun h' e kk he=>by
  obtain⟨o,ho,hc⟩:=he
  exact aa (wpAny_isInstance (T:="StopIteration") (b:=true) ⟨o,ho,hc⟩ isSubtype_stop (ae (hQ _ kk)))
 refine aa (wpAny_attempt (wpAny_callSpecial?_slot (name:=Str.ofString "__next__") hT F.slot_zip_next (wpAny_call_entry F.slot_zip_next hT F.entry_zip_next ?_ (F.args_zip_next_1 _))))
 show wpAny _ _ (field (.ref z) 2 >>= _) _ _ _
 refine aa (wpAny_field hz rfl (x:= .bool false) rfl ?_)
 show wpAny _ _ (field (.ref z) 3 >>= _) _ _ _
 refine aa (wpAny_field hz rfl (x:= .ref TI) rfl (aa (wpAny_seqItems hTI rfl ?_)))
 show wpAny _ _ (Builtin.SmallTypes.ownedTupleIsFree (.ref z) >>= _) _ _ _
 refine aa ?_;unfold Builtin.SmallTypes.ownedTupleIsFree
 refine aa (wpAny_field hz rfl (x:= .none) rfl (ae ?_));simp only [if_true]
 refine aa (wpAny_rule (aa (wpAny_field hz rfl (x:= .ref TO) rfl (aa (wpAny_setField_rec hz (by simp) fun g1 z1 s1=> ?_)))))
 replace z1:IsZip g1 z TI TO .ellipsis:=z1
 refine aa ?_;simp only [List.zipIdx_cons,List.zipIdx_nil,List.forIn_cons,List.forIn_nil]
 refine aa (aa (wpAny_onRaise ?_));show wpAny _ _ (Builtin.SmallTypes.nextOf (.ref i1) >>= _) _ _ _
 cases hx:xs[k1]? with
 | none=>
  refine aa (k9 hh (isT h1 s1 D.i1z) (isU hl1 s1 D.l1z) hx fun g2 e s2 he=> ?_)
  obtain⟨oe,q1,q2⟩:=he
  have z2:IsZip g2 z TI TO .ellipsis:=s2 _ _ D.i1z.symm z1
  have ez:e≠z:=fun x=>by subst x;rw [z2] at q1;cases q1;simp at q2
  exact wpAny_setField_rec z2 (by simp) fun g3 _ s3=>fin g3 e (fun c o c1 _ c3 _ x=>(s3.2 _ c1).trans (s2 _ _ c3 ((s1.2 _ c1).trans x))) ⟨oe,(s3.2 _ ez).trans q1,q2⟩
 | some x=>
  have hy:ys[k2]? =none:=he.resolve_left fun h=>by rw [hx] at h;cases h
  refine aa (gO (isT h1 s1 D.i1z) (isU hl1 s1 D.l1z) hx fun g2 p2 s2=>ae ?_)
  have o2:IsPair g2 TO a b:=(s2.2 _ D.TOi1).trans ((s1.2 _ D.TOz).trans hTO)
  refine aa (wpAny_seqItems o2 rfl (aa (wpAny_updateSeq_pair o2 fun g3 o3 s3=> ?_)))
  refine aa (wpAny_letGo (ae (aa (aa (wpAny_onRaise ?_)))));show wpAny _ _ (Builtin.SmallTypes.nextOf (.ref i2) >>= _) _ _ _
  refine aa (k9 hh (isT (isT (isT h2 s1 D.i2z) s2 D.i12.symm) s3 D.TOi2.symm) (isU (isU (isU hl2 s1 D.l2z) s2 D.l2i1) s3 D.l2TO) hy fun g4 e s4 he=> ?_)
  obtain⟨oe,q1,q2⟩:=he
  have z4:IsZip g4 z TI TO .ellipsis:=s4 _ _ D.i2z.symm ((s3.2 _ D.TOz.symm).trans ((s2.2 _ D.i1z.symm).trans z1))
  have ez:e≠z:=fun x=>by subst x;rw [z4] at q1;cases q1;simp at q2
  exact wpAny_setField_rec z4 (by simp) fun g5 _ s5=>fin g5 e (fun c o c1 c2 c3 c4 x=>(s5.2 _ c1).trans (s4 _ _ c4 ((s3.2 _ c2).trans ((s2.2 _ c3).trans ((s1.2 _ c1).trans x))))) ⟨oe,(s5.2 _ ez).trans q1,q2⟩
end
noncomputable def itC (t:Bool):String:=if t then "tuple_iterator" else "list_iterator"
noncomputable abbrev zg1 (t:Bool) (h:Heap) (l:Addr):Heap:=h.push { cls:= .type (itC t),data:= .fields #[.ref l, .int 0 0] }
noncomputable abbrev zg3 (t t2:Bool) (h:Heap) (l m:Addr):Heap:=(zg1 t2 (zg1 t h l) m).push { cls:= .type "tuple",data:= .seq #[.ref h.objs.size, .ref (zg1 t h l).objs.size] }
noncomputable abbrev zg4 (t t2:Bool) (h:Heap) (l m:Addr):Heap:=(zg3 t t2 h l m).push { cls:= .type "tuple",data:= .seq #[.none, .none] }
noncomputable abbrev zg5 (t t2:Bool) (h:Heap) (l m:Addr):Heap:=(zg4 t t2 h l m).push { cls:= .type "zip",data:= .fields #[.none, .bool false, .bool false, .ref (zg1 t2 (zg1 t h l) m).objs.size, .ref (zg3 t t2 h l m).objs.size] }
theorem aB0 (t t2:Bool) (l m:Addr) (xs ys:Array Value):Meets (Builtin.«zip.__new__» ⟨[.type "zip", .ref l, .ref m],[]⟩) (fun _ R s=>SeA t s.heap l xs/\SeA t2 s.heap m ys/\R (.ok (.ret (.ref (zg4 t t2 s.heap l m).objs.size))) { s with heap:=zg5 t t2 s.heap l m }):=
 .of_wp fun prog w A R s h=>by
  obtain⟨hp,g,d,tk,os⟩:=s
  obtain⟨t1,t2',h⟩:=h
  have hsub:=sub_zip
  cases t with
  | true=>
   have q1:Heap.IsTuple (Shared.heap ⟨hp,g,d,tk,os⟩) l xs:=t1
   cases t2 with
   | true=>
    have q2:Heap.IsTuple (Shared.heap ⟨hp.push { cls:= .type "tuple_iterator",data:= .fields #[.ref l, .int 0 0] },g,d,tk,os⟩) m ys:=Heap.IsTuple.push t2' _
    wp_walk using wpAny_pyIter_tuple q1,wpAny_pyIter_tuple q2
    exact⟨_,rfl,h⟩
   | false=>
    have q2:Heap.IsList (Shared.heap ⟨hp.push { cls:= .type "tuple_iterator",data:= .fields #[.ref l, .int 0 0] },g,d,tk,os⟩) m ys:=Heap.IsList.push t2' _
    wp_walk using wpAny_pyIter_tuple q1,wpAny_pyIter_list q2
    exact⟨_,rfl,h⟩
  | false=>
   have q1:Heap.IsList (Shared.heap ⟨hp,g,d,tk,os⟩) l xs:=t1
   cases t2 with
   | true=>
    have q2:Heap.IsTuple (Shared.heap ⟨hp.push { cls:= .type "list_iterator",data:= .fields #[.ref l, .int 0 0] },g,d,tk,os⟩) m ys:=Heap.IsTuple.push t2' _
    wp_walk using wpAny_pyIter_list q1,wpAny_pyIter_tuple q2
    exact⟨_,rfl,h⟩
   | false=>
    have q2:Heap.IsList (Shared.heap ⟨hp.push { cls:= .type "list_iterator",data:= .fields #[.ref l, .int 0 0] },g,d,tk,os⟩) m ys:=Heap.IsList.push t2' _
    wp_walk using wpAny_pyIter_list q1,wpAny_pyIter_list q2
    exact⟨_,rfl,h⟩
section
variable {prog:Program} {w:World} {A:Around} {Ex:Value->Shared->Prop} {s:Shared} {t t2:Bool}
theorem yJ {t:Bool} {h:Heap} {it l:Addr} (e:h.get? it=some { cls:= .type (itC t),data:= .fields #[.ref l, .int 0 0] }):ItA t h it l 0:=by
 cases t with
 | true=>exact⟨_,e,rfl,rfl⟩
 | false=>exact⟨_,e,rfl,rfl⟩
theorem yK {l m:Addr} {xs ys:Array Value} {Q:Value->Shared->Prop} (t1:SeA t s.heap l xs) (t2':SeA t2 s.heap m ys)
  (h: ∀ h',IsZip h' (s.heap.objs.size+4) (s.heap.objs.size+2) (s.heap.objs.size+3) .none->IsPair h' (s.heap.objs.size+2) (.ref s.heap.objs.size) (.ref (s.heap.objs.size+1))->IsPair h' (s.heap.objs.size+3) .none .none->
   ItA t h' s.heap.objs.size l 0->ItA t2 h' (s.heap.objs.size+1) m 0->h'.objs.size=s.heap.objs.size+5->(∀ c o,s.heap.get? c=some o->h'.get? c=some o)->Q (.ref (s.heap.objs.size+4)) { s with heap:=h' }):
  wpAny (model prog w) A (call (.type "zip") [.ref l, .ref m]) Q Ex s:=by
 refine callType_new F.called_zip (by decide) (F.typeCall_zip_2 _ _) (F.newCall_zip_2 _ _) (fun obj=>F.args_object_init_3 obj _ _) F.entry_zip_new (aB0 t t2 l m xs ys) ⟨t1,t2', ?_⟩
 have n1:(zg1 t s.heap l).objs.size=s.heap.objs.size+1:=ai ..
 have n2:(zg1 t2 (zg1 t s.heap l) m).objs.size=s.heap.objs.size+2:=by rw [ai,n1]
 have n3:(zg3 t t2 s.heap l m).objs.size=s.heap.objs.size+3:=by rw [ai,n2]
 have n4:(zg4 t t2 s.heap l m).objs.size=s.heap.objs.size+4:=by rw [ai,n3]
 have n5:(zg5 t t2 s.heap l m).objs.size=s.heap.objs.size+5:=by rw [ai,n4]
 have up: ∀ {h:Heap} {o:Obj} {c:Addr} {x:Obj},h.get? c=some x->(h.push o).get? c=some x:=fun e=>af _ e
 have g5:(zg5 t t2 s.heap l m).get? (zg4 t t2 s.heap l m).objs.size=some _:=ag _ rfl
 have g4:(zg5 t t2 s.heap l m).get? (zg3 t t2 s.heap l m).objs.size=some _:=up (ag _ rfl)
 have g3:(zg5 t t2 s.heap l m).get? (zg1 t2 (zg1 t s.heap l) m).objs.size=some _:=up (up (ag _ rfl))
 have g2:(zg5 t t2 s.heap l m).get? (zg1 t s.heap l).objs.size=some _:=up (up (up (ag _ rfl)))
 have g1:(zg5 t t2 s.heap l m).get? s.heap.objs.size=some _:=up (up (up (up (ag _ rfl))))
 show _/\_
 rw [n2,n3,n4] at g5;rw [n1,n2] at g3;rw [n3] at g4;rw [n1] at g2;rw [n4]
 exact⟨⟨_,g5,rfl⟩,h _ g5 g3 g4 (yJ g1) (yJ g2) n5 fun c o x=>up (up (up (up (up x))))⟩
end
noncomputable def aGv (t t2:Bool) (K:PySem.W.Frag) (l m:Addr):It:=
 ⟨fun i H=> ∃ xs ys x y,SqA t K H l xs/\SqA t2 K H m ys/\xs[i]? =some x/\ys[i]? =some y,
  fun i H v H'=> ∃ p x y,H p=none/\v= .ref p/\(∀ xs,SqA t K H l xs->xs[i]? =some x)/\(∀ ys,SqA t2 K H m ys->ys[i]? =some y)/\H'=upd H p (.tup [x,y]),
  fun i H=> ∃ xs ys,SqA t K H l xs/\SqA t2 K H m ys/\(xs.length<=i\/ys.length<=i)⟩
theorem yL {t t2:Bool} {P:Program} {w:World} {K:PySem.W.Frag} {es:List Expr} {x1} {tp:Pos} {z TI TO i1 i2 l m:Addr} (D:ZipApart z TI TO i1 i2 l m):
  Turn P w K (.Tuple es x1 tp) (aGv t t2 K l m) [z,TI,TO,i1,i2] z (fun i h=>IsZip h z TI TO .none/\IsPair h TI (.ref i1) (.ref i2)/\(∃ a b,IsPair h TO a b)/\ItA t h i1 l i/\ItA t2 h i2 m i) where
 mem:=by simp
 obj:=fun i h st b hb=>by
  obtain⟨z1,z2,⟨a,c,z3⟩,y4,y5⟩:=st
  obtain⟨o4,z4,d4⟩:=oD y4
  obtain⟨o5,z5,d5⟩:=oD y5
  simp only [aq,List.not_mem_nil,or_false] at hb
  rcases hb with rfl | rfl | rfl | rfl | rfl
  ·exact⟨_,z1,fun v e=>by cases e⟩
  ·exact⟨_,z2,fun v e=>by cases e⟩
  ·exact⟨_,z3,fun v e=>by cases e⟩
  ·exact⟨_,z4,fun v e=>by rw [d4] at e;cases e⟩
  ·exact⟨_,z5,fun v e=>by rw [d5] at e;cases e⟩
 keep:=fun i h h' st k=>by
  obtain⟨z1,z2,⟨a,c,z3⟩,y4,y5⟩:=st
  exact⟨k _ (by simp) _ z1,k _ (by simp) _ z2,⟨a,c,k _ (by simp) _ z3⟩,cY y4 fun o e=>k _ (by simp) o e,cY y5 fun o e=>k _ (by simp) o e⟩
 item:=by
  intro X hP hw hK hc i pins s σ H E I hf st hg
  subst hP hw hK
  obtain⟨xs,ys,x,y,q1,q2,hx,hy⟩:=hg
  obtain⟨us,r1,p1,_⟩:=fQ I q1
  obtain⟨vs,r2,p2,_⟩:=fQ I q2
  obtain⟨u,hu,ru⟩:=r1.get hx
  obtain⟨v,hv,rv⟩:=r2.get hy
  obtain⟨z1,z2,⟨a,c,z3⟩,z4,z5⟩:=st
  have tI:TI<s.heap.objs.size:=ah z2
  have tz:z<s.heap.objs.size:=ah z1
  have tO:TO<s.heap.objs.size:=ah z3
  have t4:i1<s.heap.objs.size:=by obtain⟨o,e,_⟩:=oD z4;exact ah e
  have t5:i2<s.heap.objs.size:=by obtain⟨o,e,_⟩:=oD z5;exact ah e
  refine yI D z1 z2 z3 z4 z5 p1 p2 (x:=u) (y:=v) (by simpa using hu) (by simpa using hv) fun h' a1 a2 a3 a4 a5 a6 a7=>⟨_,rfl, ?_⟩
  have hfr:H s.heap.objs.size=none:=I.hok.fresh (aj _)
  -- the pair, laid
  have Ia:Inv X pins σ (upd H s.heap.objs.size (.tup [x,y])) { s with heap:=s.heap.push { cls:= .type "tuple",data:= .seq #[u,v] } }:=
   I.laid (t':=s.toks) (fun b o e=>af _ e) (aj _) (show ObjOk X.prog X.w _ _ _ (.tup [x,y]) from⟨by rw [sizeLine_eq];simp,[u,v], .cons ru (.cons rv .nil),⟨_,ag _ rfl,rfl,_,rfl⟩,⟨_,ag _ rfl,rfl⟩⟩)
  have hne: ∀ b∈[z,TI,TO,i1,i2],b≠s.heap.objs.size:=fun b hb=>by
   simp only [aq,List.not_mem_nil,or_false] at hb
   rcases hb with rfl | rfl | rfl | rfl | rfl
   ·exact bg tz
   ·exact bg tI
   ·exact bg tO
   ·exact bg t4
   ·exact bg t5
  have hf2: ∀ b∈[z,TI,TO,i1,i2],rL X pins (upd H s.heap.objs.size (.tup [x,y])) b:=fun b hb=>⟨by rw [aM (hne b hb)];exact(hf b hb).1,(hf b hb).2⟩
  have Ib:Inv X pins σ (upd H s.heap.objs.size (.tup [x,y])) { s with heap:=h' }:=by
   refine fA (s:={ s with heap:=s.heap.push { cls:= .type "tuple",data:= .seq #[u,v] } }) (t':=s.toks) Ia (fun b o hb e=> ?_) hf2
   simp only [aq,List.not_mem_nil,or_false,not_or] at hb
   by_cases hq:b=s.heap.objs.size
   ·subst hq
    rw [show(s.heap.push { cls:= .type "tuple",data:= .seq #[u,v] }).get? s.heap.objs.size=some _ from ag _ rfl] at e
    cases e
    exact a5
   ·have e2:s.heap.get? b=some o:=by
     exact(Heap.get?_push_ne _ b _ hq).symm.trans e
    exact a7 b o hb.1 hb.2.2.1 hb.2.2.2.1 hb.2.2.2.2 e2
  refine wpAny_letOwnedTupleGo_zip a1 fun h2 b1 b2=> ?_
  have Ic:Inv X pins σ (upd H s.heap.objs.size (.tup [x,y])) { s with heap:=h2 }:=fA (s:={ s with heap:=h' }) (t':=s.toks) Ib (fun b o hb e=>(b2.2 b (fun q=>hb (by simp [q]))).trans e) hf2
  refine⟨.ref s.heap.objs.size,_,Ic,rfl,⟨_,x,y,hfr,rfl,fun xs' hx'=>by rw [hV I hx' q1];exact hx,fun ys' hy'=>by rw [hV I hy' q2];exact hy,rfl⟩,⟨b1, ?_,⟨u,v, ?_⟩, ?_, ?_⟩,fun b hb=>(hf2 b hb).1⟩
  ·exact(b2.2 _ D.TIz).trans (a7 _ _ D.TIz D.TITO D.TIi1 D.TIi2 z2)
  ·exact(b2.2 _ D.TOz).trans a2
  ·exact cY a3 fun o e=>(b2.2 _ D.i1z).trans e
  ·exact cY a4 fun o e=>(b2.2 _ D.i2z).trans e
 done:=by
  intro X hP hw hK hc i pins s σ H E I hf st hg
  subst hP hw hK
  obtain⟨xs,ys,q1,q2,hx⟩:=hg
  obtain⟨us,r1,p1,_⟩:=fQ I q1
  obtain⟨vs,r2,p2,_⟩:=fQ I q2
  obtain⟨z1,z2,⟨a,c,z3⟩,z4,z5⟩:=st
  have n1:=r1.length
  have n2:=r2.length
  refine aBz (I.ok.hd hc) D z1 z2 z3 z4 z5 p1 p2 (hx.elim (fun h=> .inl (by simp;omega)) fun h=> .inr (by simp;omega)) fun h' k=>⟨rfl,fA (t':=s.toks) I (fun b o hb e=> ?_) hf⟩
  simp only [aq,List.not_mem_nil,or_false,not_or] at hb
  exact k b o hb.1 hb.2.2.1 hb.2.2.2.1 hb.2.2.2.2 e
 self:=fun _ _ _ _ _ st h=>wpAny_pyIter_zip st.1 h
section
variable {X:Cx} {ad:Ad} {pins:List (Addr×Obj)} {s:Shared} {σ:St} {H G:Hp} {ρ:Rho} {Q:VK} {E:Nat->Hp->Prop} {pos p ap cp:Pos} {o a b c tg:Expr} {f g h:F}
theorem yM {G1 H1:Hp} {x:V} {ds:List D} (e:Same G1 H1) (q:Seq X ad G1 H1 (.lst ds) x): ∃ l xs,x= .ref l/\SqL X.K H1 l xs/\aG X.K ad G1 ds xs:=by
 rcases q with q | ⟨l,vs,ds',e1,e2,e3,e4,e5⟩
 ·unfold Rep at q
  obtain⟨l,vs,rfl,h1,h2⟩:=q
  exact⟨l,vs,rfl,e.seq h1,h2⟩
 ·cases e1
  exact⟨l,vs,e2,SqL.of e4,e5⟩
theorem yN {m:Str} {id:String} {r:Fn} (slot:PySem.Slot "list" m id) (hty:typeOf (.builtin id)=pure (.type "method_descriptor"))
  (ho:ML X ad o f) (ha:ME X ad a g) (hs:starEach [a] X.env=(false,eval a X.env)::starEach [] X.env) (hbase:attributeBase o m X.env (eval o X.env)=eval o X.env) (hline:(ap.endLine==cp.line)=true)
  (hm: ∀ (pins:List (Addr×Obj)) (s:Shared) (σ:St) (H G:Hp) (l:Addr) (xs:List V) (ds:List D) (y:D) (v:V) (u:Value) (Q:VK) (E:Nat->Hp->Prop),Inv X pins σ H s->Same G H->SqL X.K H l xs->aG X.K ad G ds xs->Rep X.K ad G y v->b9 v u->
   RK X.K ad G H (r [.lst ds,y]) Q E->wpAny (model X.prog X.w) X.A (call (.builtin id) [.ref l,u]) (EP X pins σ Q) X.xe s):ME X ad (.Call (.Attribute o m ap) [a] [] cp) (pP r f g):=by
 intro pins s σ H Q I ⟨G,ρ,E,hG,hS,hx,hr⟩
 refine wpAny_Call_method_late hbase (j8 hs) hline rfl (L2.thn (ho.lk pins s σ H G ρ _ Q E I hG hS hx hr) fun v s1 hz_=> ?_)
 obtain⟨x,d,G1,H1,I1,r1,st1,q1,k1⟩:=hz_
 cases d<;>try exact ay k1
 rename_i ds
 obtain⟨l,xs,rfl,hq,rq⟩:=yM st1.gh q1
 cases (show v=Value.ref l from r1)
 obtain⟨its,rv,pl,_⟩:=I1.list hq
 obtain⟨ob,n,e1,e2,e3,e4⟩:=pl
 refine⟨"list",id,PySem.F.plainAttrs_list,slot,hty,⟨ob,e1,e2⟩,fun a' ea=>by cases ea;exact⟨ob,e1,e3⟩, ?_⟩
 rw [hs]
 refine Calls.callWith_builtin rfl (Calls.evalArgs_plain (Calls.spliced_cons (L2.thn (ha.thn I1 st1.gh (hS.step st1) hx k1) fun u s2 ⟨w,y,G2,H2,I2,r2,st2,q2,k2⟩=>Calls.spliced_nil ?_)))
 exact hm pins s2 σ H2 G2 l xs ds y w u Q E I2 st2.gh (st2.sh.seq hq) (rq.mono st2.sg) q2 r2 k2
theorem aB1 (hu:X.A.units+62<cLine) (ho:ML X ad o f) (ha:ME X ad a g) (hs:starEach [a] X.env=(false,eval a X.env)::starEach [] X.env) (hbase:attributeBase o "count" X.env (eval o X.env)=eval o X.env) (hline:(ap.endLine==cp.line)=true):
  ME X ad (.Call (.Attribute o "count" ap) [a] [] cp) (pP tJ f g):=by
 refine yN PySem.F.slot_list_count PySem.F.type_list_count ho ha hs hbase hline ?_
 intro pins s σ H G l xs ds y v u Q E I hG hq rq q r k
 have k':RK X.K ad G H (if mH y ds then .ok (.int ((ds.countP fun z=>deq z y):Nat)) else .bad) Q E:=k
 by_cases hc:mH y ds=true
 ·rw [if_pos hc] at k'
  obtain⟨its,rv,⟨⟨cls,dd,data,sl⟩,n,e1,e2,e3,e4⟩,_⟩:=I.list hq
  simp only at e2 e3 e4
  subst e2 e4
  obtain⟨e,he,_,hcount,_⟩:=mL hu I hG hc q r rq rv
  refine call_meets PySem.F.slot_list_count ⟨_,e1,rfl⟩ PySem.F.entry_list_count (PySem.F.args_list_count_2 _ _) (SeqAt.list_countAt l its.toArray n dd sl u e) ⟨e1,he, ?_⟩
  refine⟨.int _,H,I.tok _,⟨_,rfl⟩, ?_⟩
  rw [<-hcount] at k'
  exact k'.ok_now hG aY
 ·rw [if_neg hc] at k'
  exact k'.elim
theorem aB2 (hu:X.A.units+62<cLine) (ho:ML X ad o f) (ha:ME X ad a g) (hs:starEach [a] X.env=(false,eval a X.env)::starEach [] X.env) (hbase:attributeBase o "index" X.env (eval o X.env)=eval o X.env) (hline:(ap.endLine==cp.line)=true):
  ME X ad (.Call (.Attribute o "index" ap) [a] [] cp) (pP pR f g):=by
 refine yN PySem.F.slot_list_index PySem.F.type_list_index ho ha hs hbase hline ?_
 intro pins s σ H G l xs ds y v u Q E I hG hq rq q r k
 have k':RK X.K ad G H (if mH y ds then(match ds.findIdx? fun z=>deq z y with | some k=> .ok (.int (k:Nat)) | none=> .bad) else .bad) Q E:=k
 by_cases hc:mH y ds=true
 ·rw [if_pos hc] at k'
  obtain⟨its,rv,⟨⟨cls,dd,data,sl⟩,n,e1,e2,e3,e4⟩,hz⟩:=I.list hq
  simp only at e2 e3 e4
  subst e2 e4
  obtain⟨e,he,_,_,hfind⟩:=mL hu I hG hc q r rq rv
  cases hf:ds.findIdx? fun z=>deq z y with
  | none=>rw [hf] at k';exact k'.elim
  | some j=>
   rw [hf] at k' hfind
   obtain⟨hj,hit,hno⟩:=List.findIdx?_eq_some_iff_getElem.mp hfind
   have hl:=rv.length
   refine call_meets PySem.F.slot_list_index ⟨_,e1,rfl⟩ PySem.F.entry_list_index (PySem.F.args_list_index_2 _ _) (SeqAt.list_indexAt l its.toArray n dd sl u e j (by simpa using hj) ?_ (by simpa using hit) (fun m hm hlt=>by simpa using hno m hlt)) ⟨e1,he, ?_⟩
   ·have:(sizeLine:Nat)<2 ^ 63 - 1:=by decide
    omega
   ·exact⟨.int _,H,I.tok _,⟨_,rfl⟩,k'.ok_now hG aY⟩
 ·rw [if_neg hc] at k'
  exact k'.elim
noncomputable def iZp (K:PySem.W.Frag) (ta:TA):TI:=fun σ H R=>ta σ H fun vs H1=> ∃ t t2 l m xs ys,vs=[.ref l, .ref m]/\SqA t K H1 l xs/\SqA t2 K H1 m ys/\(xs.length<=sizeLine->R (aGv t t2 K l m) H1)
theorem aKx {es:List Expr} {kt} {tp:Pos} {ta:TA} (hg:L2.Gl X "zip") (hm:X.mg "zip"=none) (ha:PA X [a,b] ta) (he:starEach [a,b] X.env=(false,eval a X.env)::starEach [b] X.env) (he2:starEach [b] X.env=(false,eval b X.env)::starEach [] X.env):
  PI X (.Tuple es kt tp) (.Call (.Name "zip" p) [a,b] [] pos) (iZp X.K ta):=by
 intro pins s σ H R I h
 refine Call_ (gU (u:= .type "zip") I hg hm (by decide+kernel) (PyProof.Rows.callWith_type1 (L2.thn (ha pos pins s σ H _ I h) fun us s1 ⟨vs,H1,I1,r1,q1⟩=> ?_) he (by rw [he2];rfl)) (by decide) (by decide))
 obtain⟨t,t2,l,m,xs,ys,rfl,hq1,hq2,q⟩:=q1
 obtain⟨u,v,rfl,ru,rv⟩:=r1.two
 cases (show u=Value.ref l from ru)
 cases (show v=Value.ref m from rv)
 obtain⟨its,_,p1,z1⟩:=fQ I1 hq1
 obtain⟨its2,_,p2,_⟩:=fQ I1 hq2
 refine yK p1 p2 fun h' a1 a2 a3 a4 a5 a6 a7=>wpAny_pyIter_zip a1 ?_
 have l1:l<s1.heap.objs.size:=by cases t<;>(obtain⟨o,e,_⟩:=p1;exact ah e)
 have l2:m<s1.heap.objs.size:=by cases t2<;>(obtain⟨o,e,_⟩:=p2;exact ah e)
 refine⟨s1.heap.objs.size+4,[s1.heap.objs.size+4,s1.heap.objs.size+2,s1.heap.objs.size+3,s1.heap.objs.size,s1.heap.objs.size+1],_,aGv t t2 X.K l m,H1,rfl,I1.kept (t':=s1.toks) a7,yL (yB l1 l2),⟨a1,a2,⟨_,_,a3⟩,a4,a5⟩,fun b hb=> ?_,q z1⟩
 have hb':s1.heap.objs.size<=b:=by
  simp only [aq,List.not_mem_nil,or_false] at hb
  rcases hb with rfl | rfl | rfl | rfl | rfl
  ·exact Nat.le_add_right _ 4
  ·exact Nat.le_add_right _ 2
  ·exact Nat.le_add_right _ 3
  ·exact aj _
  ·exact Nat.le_add_right _ 1
 exact I1.fpOk hb' (I1.hok.fresh hb')
theorem aGw {ds es:List D} {i:Nat} {d:D} (e:((ds.zip es).map fun p=>D.tup [p.1,p.2])[i]? =some d): ∃ x y,ds[i]? =some x/\es[i]? =some y/\d= .tup [x,y]:=by
 rw [List.getElem?_map] at e
 cases q:(ds.zip es)[i]? with
 | none=>rw [q] at e;cases e
 | some p=>
  rw [q] at e
  rw [List.getElem?_zip_eq_some] at q
  exact⟨p.1,p.2,q.1,q.2,(Option.some.inj e).symm⟩
noncomputable def isA:Bool->List D->D->Prop
 | true,ds,d=>d= .tup ds
 | false,ds,d=>d= .lst ds
theorem yO {t:Bool} {G1:Hp} {d:D} {v:V} {ds:List D} (c:isA t ds d) (r:Rep X.K ad G1 d v): ∃ l vs,v= .ref l/\SqA t X.K G1 l vs/\aG X.K ad G1 ds vs:=by
 cases t with
 | true=>cases c;unfold Rep at r;exact r
 | false=>cases c;unfold Rep at r;exact r
theorem aB3 {t t2:Bool} {G1 H1 H2:Hp} {l m:Addr} {i:Nat} {vs ws:List V} {ds es:List D} {d:D} {x:V} (h1:SqA t X.K G1 l vs) (r1:aG X.K ad G1 ds vs) (h2:SqA t2 X.K G1 m ws) (r2:aG X.K ad G1 es ws) (hg:Same G1 H1) (e:((ds.zip es).map fun p=>D.tup [p.1,p.2])[i]? =some d):
  (aGv t t2 X.K l m).go i H1/\ ∀ x H2,(aGv t t2 X.K l m).yld i H1 x H2-> ∃ G2,Step G1 H1 G2 H2/\Rep X.K ad G2 d x:=by
 obtain⟨x,y,e1,e2,rfl⟩:=aGw e
 obtain⟨v,g1,q1⟩:=r1.get e1
 obtain⟨w,g2,q2⟩:=r2.get e2
 refine⟨⟨vs,ws,v,w,bE hg h1,bE hg h2,g1,g2⟩, ?_⟩
 rintro x' H2' ⟨p,x2,y2,hn,rfl,b1,b2,rfl⟩
 have c1:=b1 vs (bE hg h1);rw [g1] at c1;cases c1
 have c2:=b2 ws (bE hg h2);rw [g2] at c2;cases c2
 refine⟨upd G1 p (.tup [v,w]),Step.new hg hn, ?_⟩
 have sm:Same G1 (upd G1 p (.tup [v,w])):=Same.upd_new (hg.free hn)
 unfold Rep
 exact⟨p,[v,w],rfl,SqT.of a9,aG.cons (q1.mono sm) (aG.cons (q2.mono sm) aG.nil)⟩
theorem aB4 {t t2:Bool} {G1 H1:Hp} {l m:Addr} {vs ws:List V} {ds es:List D} (h1:SqA t X.K H1 l vs) (n1:vs.length=ds.length) (h2:SqA t2 X.K H1 m ws) (n2:ws.length=es.length):(aGv t t2 X.K l m).stop ((ds.zip es).map fun p=>D.tup [p.1,p.2]).length H1:=by
 refine⟨vs,ws,h1,h2, ?_⟩
 simp only [am,List.length_zip]
 omega
theorem aKy {es:List Expr} {kt} {tp:Pos} (hg:L2.Gl X "zip") (hm:X.mg "zip"=none) (ha:ME X ad a f) (hb:ME X ad b g) (he:starEach [a,b] X.env=(false,eval a X.env)::starEach [b] X.env) (he2:starEach [b] X.env=(false,eval b X.env)::starEach [] X.env):
  MI X ad (.Tuple es kt tp) (.Call (.Name "zip" p) [a,b] [] pos) (vP f g):=by
 intro pins s σ H W I ⟨G,ρ,E,hG,hS,hx,hr⟩
 refine aKx (ta:=vK (tE X ad f) (vK (tE X ad g) aJn)) hg hm (dR ha (dR hb gA he2) he) he he2 pins s σ H W I ?_
 show tE X ad f σ H fun v H1=>tE X ad g σ H1 fun v2 H2=> ∃ t t2 l m xs ys,[v,v2]=[.ref l, .ref m]/\SqA t X.K H2 l xs/\SqA t2 X.K H2 m ys/\(xs.length<=sizeLine->W (aGv t t2 X.K l m) H2)
 refine oB hG hS hx hr fun v d G1 H1 st r k=> ?_
 refine oB st.gh (hS.step st) hx k fun v2 d2 G2 H2 st2 r2 k2=> ?_
 obtain⟨t,t2,ds,es',c1,c2,k2⟩: ∃ t t2 ds es',isA t ds d/\isA t2 es' d2/\IK X ad G2 H2 (.ok (.lst ((ds.zip es').map fun p=>D.tup [p.1,p.2]))) W E:=by
  cases d<;>try exact ay k2
  ·cases d2<;>try exact ay k2
   ·exact⟨true,true,_,_,rfl,rfl,k2⟩
   ·exact⟨true,false,_,_,rfl,rfl,k2⟩
  ·cases d2<;>try exact ay k2
   ·exact⟨false,true,_,_,rfl,rfl,k2⟩
   ·exact⟨false,false,_,_,rfl,rfl,k2⟩
 obtain⟨al,e,hw⟩:=k2
 cases e
 obtain⟨l,vs,rfl,q1,y1⟩:=yO c1 r
 obtain⟨m,ws,rfl,q2,y2⟩:=yO c2 r2
 have q1':=bE st2.sg q1
 have y1':=y1.mono st2.sg
 refine⟨t,t2,l,m,vs,ws,rfl,bE st2.gh q1',bE st2.gh q2,fun few=>hw _ G2 H2 (Step.refl st2.gh) ⟨fun i G3 H3 d' s3 e=> ?_,fun G3 H3 s3=>aB4 (G1:=G3) (bE s3.sh (bE st2.gh q1')) y1'.length (bE s3.sh (bE st2.gh q2)) y2.length, ?_⟩⟩
 ·exact aB3 (H2:=H3) (x:= .ref l) (bE s3.sg q1') (y1'.mono s3.sg) (bE s3.sg q2) (y2.mono s3.sg) s3.gh e
 ·have:=y1'.length
  simp only [am,List.length_zip]
  omega
noncomputable def iEn (K:PySem.W.Frag) (ta:TA):TI:=fun σ H R=>ta σ H fun vs H1=> ∃ t l xs,vs=[.ref l]/\SqA t K H1 l xs/\(xs.length<=sizeLine->R (Ite t K l) H1)
theorem aGx {es:List Expr} {kt} {tp:Pos} {ta:TA} (hg:L2.Gl X "enumerate") (hm:X.mg "enumerate"=none) (ha:PA X [a] ta) (he:starEach [a] X.env=(false,eval a X.env)::starEach [] X.env):
  PI X (.Tuple es kt tp) (.Call (.Name "enumerate" p) [a] [] pos) (iEn X.K ta):=by
 intro pins s σ H R I h
 refine Call_ (gU (u:= .type "enumerate") I hg hm (by decide+kernel) (PyProof.Rows.callWith_type1 (L2.thn (ha pos pins s σ H _ I h) fun us s1 ⟨vs,H1,I1,r1,q1⟩=> ?_) he rfl) (by decide) (by decide))
 obtain⟨t,l,xs,rfl,hq,q⟩:=q1
 obtain⟨u,rfl,ru⟩:=r1.one
 cases (show u=Value.ref l from ru)
 obtain⟨its,_,p1,z1⟩:=fQ I1 hq
 refine vX p1 fun h' a1 a2 a3 a4=>wpAny_pyIter_enum a1 ?_
 refine⟨s1.heap.objs.size+1,[s1.heap.objs.size+1,s1.heap.objs.size],_,Ite t X.K l,H1,rfl,I1.kept (t':=s1.toks) a4,yG (Nat.succ_ne_self _),⟨⟨_,a1⟩,a2⟩,fun b hb=> ?_,q z1⟩
 have hb':s1.heap.objs.size<=b:=by
  simp only [aq,List.not_mem_nil,or_false] at hb
  rcases hb with rfl | rfl
  ·exact Nat.le_succ _
  ·exact aj _
 exact I1.fpOk hb' (I1.hok.fresh hb')
theorem yP {G1:Hp} {d:D} {v:V} {ds:List D} (r:Rep X.K ad G1 d v) (e:items d=some ds): ∃ t l vs,v= .ref l/\SqA t X.K G1 l vs/\aG X.K ad G1 ds vs:=by
 cases d<;>try (cases e;done)
 ·cases e;unfold Rep at r;obtain⟨l,vs,rfl,q,t⟩:=r;exact⟨true,l,vs,rfl,q,t⟩
 ·cases e;unfold Rep at r;obtain⟨l,vs,rfl,q,t⟩:=r;exact⟨false,l,vs,rfl,q,t⟩
theorem aB5 {t:Bool} {G1 H1:Hp} {l:Addr} {i:Nat} {vs:List V} {ds:List D} {d:D} (h1:SqA t X.K G1 l vs) (r1:aG X.K ad G1 ds vs) (hg:Same G1 H1) (e:(ds.zipIdx.map fun p=>D.tup [.int (p.2:Nat),p.1])[i]? =some d):
  (Ite t X.K l).go i H1/\ ∀ x H2,(Ite t X.K l).yld i H1 x H2-> ∃ G2,Step G1 H1 G2 H2/\Rep X.K ad G2 d x:=by
 rw [List.getElem?_map,List.getElem?_zipIdx] at e
 cases q:ds[i]? with
 | none=>rw [q] at e;cases e
 | some x=>
  rw [q] at e
  have e2:=(Option.some.inj e).symm
  simp only [Nat.zero_add] at e2
  subst e2
  obtain⟨v,g1,q1⟩:=r1.get q
  refine⟨⟨vs,v,bE hg h1,g1⟩, ?_⟩
  rintro x' H2' ⟨p,x2,hn,rfl,b1,rfl⟩
  have c1:=b1 vs (bE hg h1);rw [g1] at c1;cases c1
  refine⟨upd G1 p (.tup [.int i,v]),Step.new hg hn, ?_⟩
  have sm:Same G1 (upd G1 p (.tup [.int i,v])):=Same.upd_new (hg.free hn)
  unfold Rep
  exact⟨p,[.int i,v],rfl,SqT.of a9,aG.cons aY (aG.cons (q1.mono sm) aG.nil)⟩
theorem aGy {es:List Expr} {kt} {tp:Pos} (hg:L2.Gl X "enumerate") (hm:X.mg "enumerate"=none) (ha:ME X ad a f) (he:starEach [a] X.env=(false,eval a X.env)::starEach [] X.env):
  MI X ad (.Tuple es kt tp) (.Call (.Name "enumerate" p) [a] [] pos) (aFj f):=by
 intro pins s σ H W I ⟨G,ρ,E,hG,hS,hx,hr⟩
 refine aGx (ta:=vK (tE X ad f) aJn) hg hm (dR ha gA he) he pins s σ H W I ?_
 show tE X ad f σ H fun v H1=> ∃ t l xs,[v]=[.ref l]/\SqA t X.K H1 l xs/\(xs.length<=sizeLine->W (Ite t X.K l) H1)
 refine oB hG hS hx hr fun v d G1 H1 st r k=> ?_
 have k':IK X ad G1 H1 (match items d with | some xs=> .ok (.lst (xs.zipIdx.map fun p=>D.tup [.int (p.2:Nat),p.1])) | none=> .bad) W E:=k
 cases e:items d with
 | none=>rw [e] at k';exact k'.elim
 | some ds=>
  rw [e] at k'
  obtain⟨al,e2,hw⟩:=k'
  cases e2
  obtain⟨t,l,vs,rfl,q1,t1⟩:=yP r e
  have n1:=t1.length
  refine⟨t,l,vs,rfl,bE st.gh q1,fun few=>hw _ G1 H1 (Step.refl st.gh) ⟨fun i G3 H3 d' s3 e=>aB5 (bE s3.sg q1) (t1.mono s3.sg) s3.gh e,fun G3 H3 s3=>⟨vs,bE s3.sh (bE st.gh q1),by simp;omega⟩,by simp;omega⟩⟩
theorem aB6 (hc:MT X ad c h) (ha:MT X ad a f) (hb:MT X ad b g):MT X ad (.IfExp c a b pos) (rIf h f g):=by
 intro pins s σ H Q I ⟨G,ρ,E,hG,hS,hx,ht,hr⟩
 have hr':RK X.K ad G H ((h ρ).bind fun x=>match x with | .bl true=>f ρ | .bl false=>g ρ | _=> .bad) (fun v H'=> ∃ b,v= .bl b/\Q b H') E:=hr
 have ht':mI ((h ρ).bind fun x=>match x with | .bl true=>f ρ | .bl false=>g ρ | _=> .bad):=ht
 have e:isTrue (.IfExp c a b pos) X.env (eval (.IfExp c a b pos) X.env)=(do if<-isTrue c X.env (eval c X.env) then isTrue a X.env (eval a X.env) else isTrue b X.env (eval b X.env)):=rfl
 rw [e]
 refine aa ?_
 rcases fN ht' with ⟨d,e1,ht2⟩ | ⟨xs,e1,ht2⟩ | ⟨k,e1⟩
 ·cases d<;>try exact(bQ ht2).elim
  rename_i k
  rw [e1] at hr'
  refine L2.thn (hc pins s σ H (fun b H1=>b=k/\ ∃ G1,Step G H G1 H1) I ⟨G,ρ,E,hG,hS,hx, .inl ⟨k,e1⟩, ?_⟩) fun b s1 ⟨H1,I1,e2,G1,st⟩=> ?_
  ·rw [e1]
   intro v G1 H1 st r
   unfold Rep at r;subst r
   exact⟨k,rfl,rfl,G1,st⟩
  ·subst e2
   cases b with
   | true=>exact wpAny_ite_true (by decide) (ha pins s1 σ H1 Q I1 ⟨G1,ρ,E,st.gh,hS.step st,hx,ht2,RK.step hr' st⟩)
   | false=>exact wpAny_ite_false (by decide) (hb pins s1 σ H1 Q I1 ⟨G1,ρ,E,st.gh,hS.step st,hx,ht2,RK.step hr' st⟩)
 ·exact(bQ ht2).elim
 ·rw [e1] at hr'
  refine L2.thn (hc pins s σ H (fun b H1=>False) I ⟨G,ρ,E,hG,hS,hx, .inr ⟨k,e1⟩, ?_⟩) fun b s1 ⟨H1,I1,z⟩=>z.elim
  rw [e1]
  exact hr'
end
section
variable {X:Cx} {ad:Ad} {pins:List (Addr×Obj)} {s:Shared} {σ:St} {H G:Hp} {ρ:Rho} {Q:VK} {E:Nat->Hp->Prop} {pos p p2 pos2:Pos} {a:Expr} {f:F}
end
section
variable {prog:Program} {w:World} {A:Around} {Ex:Value->Shared->Prop} {s:Shared}
end
section
variable {X:Cx} {ad:Ad}
end
section
variable {prog:Program} {w:World} {A:Around} {Ex:Value->Shared->Prop} {s:Shared}
end
section
variable {prog:Program} {w:World} {A:Around} {Ex:Value->Shared->Prop} {s:Shared}
end
section
variable {X:Cx} {ad:Ad} {pos p p2 pos2:Pos} {a:Expr} {f:F}
end
theorem yQ: ∀ (l:List Int) (m:Int),m<=vQ m l/\ ∀ x∈l,x<=vQ m l
 | [],m=>⟨Int.le_refl _,nofun⟩
 | i::r,m=>by
  have h:=yQ r (if m<i then i else m)
  unfold vQ
  by_cases c:m<i
  ·rw [if_pos c] at h ⊢
   exact⟨by omega,fun x hx=>by rcases aq.1 hx with e | e;(subst e;exact h.1);exact h.2 x e⟩
  ·rw [if_neg c] at h ⊢
   exact⟨h.1,fun x hx=>by rcases aq.1 hx with e | e;(subst e;omega);exact h.2 x e⟩
theorem uB: ∀ (l:List Int) (m:Int),vQ m l∈m::l
 | [],m=> .head _
 | i::r,m=>by
  unfold vQ
  have h:=uB r (if m<i then i else m)
  by_cases c:m<i
  ·rw [if_pos c] at h ⊢;exact .tail _ h
  ·rw [if_neg c] at h ⊢
   rcases aq.1 h with e | e
   ·rw [e];exact .head _
   ·exact .tail _ (.tail _ e)
theorem aB7 {l:List Int} {j:Nat} (h:j<l.length):l.getD j 0∈l:=by
 have e:l.getD j 0=l[j]:=by simp [h]
 rw [e];exact List.getElem_mem h
theorem aB8 {l:List Int} {x:Int} (h:x∈l): ∃ j,j<l.length/\l.getD j 0=x:=by
 obtain⟨j,hj,e⟩:=List.getElem_of_mem h
 exact⟨j,hj,by simp [hj,e]⟩
theorem aKz {n:Int} {r:List Int} {j:Nat} (hj:j<(n::r).length) (h: ∀ i,i<(n::r).length->(n::r).getD i 0<=(n::r).getD j 0):(n::r).getD j 0=vQ n r:=by
 have a:=yQ r n
 have b:=aB7 hj
 obtain⟨k,hk,e⟩:=aB8 (uB r n)
 have c:=h k hk
 have d:(n::r).getD j 0<=vQ n r:=by
  rcases aq.1 b with e | e
  ·rw [e];exact a.1
  ·exact a.2 _ e
 rw [e] at c;omega
section
variable {X:Cx} {ad:Ad}
theorem aB9 (hh:X.A.handled=none):BOp X ad (.builtin "max") aFl:=by
 intro pins s σ H G x v u Q E I hG q ru hr
 have hr':RK X.K ad G H (match(items x).bind fK with | some (n::ns)=> .ok (.int (vQ n ns)) | _=> .bad) Q E:=hr
 cases e:items x with
 | none=>rw [e] at hr';exact hr'.elim
 | some ds=>
  rw [e] at hr'
  have hr2:RK X.K ad G H (match fK ds with | some (n::ns)=> .ok (.int (vQ n ns)) | _=> .bad) Q E:=hr'
  cases e2:fK ds with
  | none=>rw [e2] at hr2;exact hr2.elim
  | some ns=>
   rw [e2] at hr2
   cases ns with
   | nil=>exact hr2.elim
   | cons n ns=>
   obtain⟨p,vs,rfl,hq,rq⟩:=q.items hG e
   have hq':SqL X.K H p vs\/SqT X.K H p vs:=hq.elim (fun z=> .inr z.2) fun z=> .inl z.2
   cases (show u=Value.ref p from ru)
   have ev:=kW e2 rq
   subst ev
   refine call_max_walkS (n6 (A:=X.A.in1) hh I hq' fun its s2 I' fp wr Stt rv W st hfp h1 h2 h3 h4 h5=> ?_)
   have hl:its.length=(n::ns).length:=by rw [<-rv.length,am]
   refine⟨I',fp,wr,_,its.length,_,_,_,rfl,W.toS,st,hfp,by rw [hl];simp,CmpOf.ints_gt (fun i=>(n::ns).getD i 0) fun i v e=>xL rv e,fun v s' hv m=> ?_⟩
   obtain⟨t',rfl⟩:=xL rv hv
   have hb:=argBest_gt (fun i=>(n::ns).getD i 0) (its.length - 1)
   refine⟨.int (vQ n ns),H,I.moved h5 h4 h1 h2 h3 m,⟨t', ?_⟩,hr2.ok_now hG aY⟩
   rw [aKz (by rw [<-hl];have:0<its.length:=(by rw [hl];simp);omega) fun i hi=>hb.2 i (by omega)]
end
section
variable {prog:Program} {w:World} {A:Around} {Ex:Value->Shared->Prop} {s:Shared}
theorem vY (n:Nat):Builtin.Slice.sliceAdjust none none (-1) (n:Int)=((n:Int) - 1, -1):=by
 unfold Builtin.Slice.sliceAdjust
 first | rfl | simp
theorem vZ (n:Nat):Builtin.Slice.slicePlaces ((n:Int) - 1) (-1) (-1)=n:=by
 unfold Builtin.Slice.slicePlaces
 have h1: ¬ ((-1:Int) > 0):=by decide
 simp only [h1,if_false]
 by_cases h:(n:Int) - 1 > -1
 ·rw [if_pos h,show(-(-1):Int)=1 by decide,Int.ediv_one];omega
 ·rw [if_neg h];omega
theorem sE {sl:Addr} {t:Tok} {n:Nat} {Q:Int×Int×Nat->Shared->Prop} (hs:s.heap.IsSliceOf sl .none .none (.int (-1) t)) (h:Q ((n:Int) - 1, -1,n) s):wpAny (model prog w) A (Builtin.Slice.sliceApplied (.ref sl) (pure (n:Int))) Q Ex s:=by
 obtain⟨os,hos,hcs,hds⟩:=id hs
 unfold Builtin.Slice.sliceApplied Builtin.Slice.sliceFields
 refine aa (aa (wpAny_field hos hds (x:= .none) rfl (aa (wpAny_field hos hds (x:= .none) rfl (aa (wpAny_field hos hds (x:= .int (-1) t) rfl (ae ?_)))))))
 refine aa (slicePart_int ?_)
 show wpAny _ _ (if((-1:Int)==0)=true then _ else _) _ _ s
 rw [if_neg (by decide)]
 refine aa (slicePart_none (aa (slicePart_none (aa (ae ?_)))))
 show wpAny _ _ (match Builtin.Slice.sliceAdjust none none (-1) (n:Int) with | (lo,hi)=>pure (lo,(-1:Int),Builtin.Slice.slicePlaces lo hi (-1))) _ _ s
 rw [vY]
 show wpAny _ _ (pure ((n:Int) - 1,(-1:Int),Builtin.Slice.slicePlaces ((n:Int) - 1) (-1) (-1))) _ _ s
 rw [vZ]
 exact ae h
theorem aCa (xs:Array Value):((List.range xs.size).filterMap fun(k:Nat)=>xs[((xs.size:Int) - 1+(k:Int) * -1).toNat]?).toArray=xs.toList.reverse.toArray:=by
 congr 1
 have e: ∀ k∈List.range xs.size,xs[((xs.size:Int) - 1+(k:Int) * -1).toNat]? =some (xs.toList.reverse.getD k .none):=fun k hk=>by
  have hk:=zRd hk
  have h1:((xs.size:Int) - 1+(k:Int) * -1).toNat=xs.size - 1 - k:=by omega
  have h2:xs.size - 1 - k<xs.size:=by omega
  rw [h1,Array.getElem?_eq_getElem h2]
  have h3:k<xs.toList.reverse.length:=by simpa using hk
  rw [bu,ba h3,List.getElem_reverse]
  simp
 have: ∀ l:List Nat,(∀ k∈l,k∈List.range xs.size)->l.filterMap (fun(k:Nat)=>xs[((xs.size:Int) - 1+(k:Int) * -1).toNat]?)=l.map fun k=>xs.toList.reverse.getD k .none:=by
  intro l
  induction l with
  | nil=>intro _;rfl
  | cons a l ih=>intro h;rw [List.filterMap_cons,e a (h a (.head _)),List.map_cons,ih fun k hk=>h k (.tail _ hk)]
 rw [this _ fun _ h=>h]
 apply List.ext_getElem
 ·simp
 ·intro i h1 h2;simp at h1;simp [h1]
theorem jD {t sl:Addr} {items:Array Value} {tk:Tok} {Q:Value->Shared->Prop} (ht:IsTup s.heap t items) (hs:s.heap.IsSliceOf sl .none .none (.int (-1) tk))
  (h:Q (.ref s.heap.objs.size) { s with heap:=s.heap.push { cls:= .type "tuple",data:= .seq items.toList.reverse.toArray } }) (hsz:items.size<=sizeLine):wpAny (model prog w) A (getItem (.ref t) (.ref sl)) Q Ex s:=by
 have htake:sizeOk (.seq items.toList.reverse.toArray):=by
  show items.toList.reverse.toArray.size<=sizeLine
  rw [av,List.length_reverse,Array.length_toList]
  exact hsz
 obtain⟨os,hos,hcs,hds⟩:=id hs
 have hTs:s.TypeIs (.ref sl) "slice":=⟨os,hos,hcs⟩
 unfold getItem
 try with_reducible refine wpAny_holding ?_
 first | refine aa (ae ?_) | skip
 refine aa (wpAny_sequenceKey ht.typeIs (by decide) ?_)
 refine aa (wpAny_callSpecial?_slot (name:=Str.ofString "__getitem__") ht.typeIs PyProof.Rows.slot_tuple_getitem
  (wpAny_call_entry PyProof.Rows.slot_tuple_getitem ht.typeIs entry_tuple_getitem ?_ (args_tuple_getitem _ _)))
 show wpAny _ _ (Builtin.Tuple.tupleItemsOf (.ref t) >>= _) _ _ s
 refine aa (tupleItemsOf_ ht ?_)
 refine aa (wpAny_typeOf hTs ?_)
 rw [if_pos (by decide)]
 refine aa (sE hs ?_)
 have hno: ¬ (((items.size:Int) - 1==0&&(-1:Int)==1&&items.size==items.size)=true):=by
  rw [show((-1:Int)==1)=false by decide,Bool.and_false,Bool.false_and];exact bd
 show wpAny _ _ (if((items.size:Int) - 1==0&&(-1:Int)==1&&items.size==items.size)=true then _ else _) _ _ s
 rw [if_neg hno,aCa]
 first
  | exact aa (m:=Builtin.Tuple.tupleExact _) (wpAny_newObj_type (ae ⟨_,rfl,ae h⟩) htake)
  | exact aa (m:=Builtin.Tuple.tupleExact _) (wpAny_newObj_type (aa (ae (ae ⟨_,rfl,ae h⟩))) htake)
  | exact aa (aa (m:=Builtin.Tuple.tupleExact _) (wpAny_newObj_type (ae (ae ⟨_,rfl,ae h⟩)) htake))
  | exact aa (aa (m:=Builtin.Tuple.tupleExact _) (wpAny_newObj_type (ae ⟨_,rfl,ae h⟩) htake))
end
section
variable {prog:Program} {w:World} {A:Around} {Ex:Value->Shared->Prop} {s:Shared}
theorem sF (lo n:Nat):Builtin.Slice.sliceAdjust (some (lo:Int)) none 2 (n:Int)=(min (lo:Int) (n:Int),(n:Int)):=by
 unfold Builtin.Slice.sliceAdjust
 have h1: ¬ ((2:Int)<0):=by decide
 have h2: ¬ ((lo:Int)<0):=by omega
 simp only [h1,h2,if_false]
theorem sG (lo n:Nat):Builtin.Slice.slicePlaces (min (lo:Int) (n:Int)) (n:Int) 2=(n - lo+1) / 2:=by
 unfold Builtin.Slice.slicePlaces
 have h1:(2:Int) > 0:=by decide
 simp only [h1,if_true]
 split<;>omega
theorem p9 {sl:Addr} {t t2:Tok} {lo n:Nat} {Q:Int×Int×Nat->Shared->Prop} (hs:s.heap.IsSliceOf sl (.int (lo:Int) t) .none (.int 2 t2)) (h:Q (min (lo:Int) (n:Int),2,(n - lo+1) / 2) s):wpAny (model prog w) A (Builtin.Slice.sliceApplied (.ref sl) (pure (n:Int))) Q Ex s:=by
 obtain⟨os,hos,hcs,hds⟩:=id hs
 unfold Builtin.Slice.sliceApplied Builtin.Slice.sliceFields
 refine aa (aa (wpAny_field hos hds (x:= .int (lo:Int) t) rfl (aa (wpAny_field hos hds (x:= .none) rfl (aa (wpAny_field hos hds (x:= .int 2 t2) rfl (ae ?_)))))))
 refine aa (slicePart_int ?_)
 show wpAny _ _ (if((2:Int)==0)=true then _ else _) _ _ s
 rw [if_neg (by decide)]
 refine aa (slicePart_int (aa (slicePart_none (aa (ae ?_)))))
 show wpAny _ _ (match Builtin.Slice.sliceAdjust (some (lo:Int)) none 2 (n:Int) with | (lo,hi)=>pure (lo,(2:Int),Builtin.Slice.slicePlaces lo hi 2)) _ _ s
 rw [sF]
 show wpAny _ _ (pure (min (lo:Int) (n:Int),(2:Int),Builtin.Slice.slicePlaces (min (lo:Int) (n:Int)) (n:Int) 2)) _ _ s
 rw [sG]
 exact ae h
theorem yR (xs:Array Value) (lo:Nat):((List.range ((xs.size - lo+1) / 2)).filterMap fun(k:Nat)=>xs[(min (lo:Int) (xs.size:Int)+(k:Int) * 2).toNat]?).toArray=(dS xs.toList lo).toArray:=by
 congr 1
 unfold dS
 rw [Array.length_toList]
 have e: ∀ k∈List.range ((xs.size - lo+1) / 2),xs[(min (lo:Int) (xs.size:Int)+(k:Int) * 2).toNat]? =xs.toList[lo+2 * k]? :=fun k hk=>by
  have hk:=zRd hk
  have h1:(min (lo:Int) (xs.size:Int)+(k:Int) * 2).toNat=lo+2 * k:=by omega
  rw [h1];simp
 have: ∀ l:List Nat,(∀ k∈l,k∈List.range ((xs.size - lo+1) / 2))->l.filterMap (fun(k:Nat)=>xs[(min (lo:Int) (xs.size:Int)+(k:Int) * 2).toNat]?)=l.filterMap fun k=>xs.toList[lo+2 * k]? :=by
  intro l
  induction l with
  | nil=>intro _;rfl
  | cons a l ih=>intro h;rw [List.filterMap_cons,List.filterMap_cons,e a (h a (.head _)),ih fun k hk=>h k (.tail _ hk)]
 exact this _ fun _ h=>h
theorem qA {α:Type} (xs:List α) (lo:Nat):(dS xs lo).length<=xs.length:=by
 unfold dS
 have h:=List.length_filterMap_le (fun k=>xs[lo+2 * k]?) (List.range ((xs.length - lo+1) / 2))
 rw [List.length_range] at h
 by_cases hl:xs.length=0
 ·have:(List.filterMap (fun k=>xs[lo+2 * k]?) (List.range ((xs.length - lo+1) / 2)))=[]:=by
   rw [List.filterMap_eq_nil_iff]
   intro k _
   rw [List.getElem?_eq_none_iff];omega
  rw [this];exact bq _
 ·omega
theorem iO {t sl:Addr} {items:Array Value} {lo:Nat} {tk t2:Tok} {Q:Value->Shared->Prop} (ht:IsTup s.heap t items) (hs:s.heap.IsSliceOf sl (.int (lo:Int) tk) .none (.int 2 t2))
  (h:Q (.ref s.heap.objs.size) { s with heap:=s.heap.push { cls:= .type "tuple",data:= .seq (dS items.toList lo).toArray } }) (hsz:items.size<=sizeLine):wpAny (model prog w) A (getItem (.ref t) (.ref sl)) Q Ex s:=by
 have htake:sizeOk (.seq (dS items.toList lo).toArray):=by
  show(dS items.toList lo).toArray.size<=sizeLine
  have:=qA items.toList lo
  rw [Array.length_toList] at this
  rw [av]
  exact Nat.le_trans this hsz
 obtain⟨os,hos,hcs,hds⟩:=id hs
 have hTs:s.TypeIs (.ref sl) "slice":=⟨os,hos,hcs⟩
 unfold getItem
 try with_reducible refine wpAny_holding ?_
 first | refine aa (ae ?_) | skip
 refine aa (wpAny_sequenceKey ht.typeIs (by decide) ?_)
 refine aa (wpAny_callSpecial?_slot (name:=Str.ofString "__getitem__") ht.typeIs PyProof.Rows.slot_tuple_getitem
  (wpAny_call_entry PyProof.Rows.slot_tuple_getitem ht.typeIs entry_tuple_getitem ?_ (args_tuple_getitem _ _)))
 show wpAny _ _ (Builtin.Tuple.tupleItemsOf (.ref t) >>= _) _ _ s
 refine aa (tupleItemsOf_ ht ?_)
 refine aa (wpAny_typeOf hTs ?_)
 rw [if_pos (by decide)]
 refine aa (p9 hs ?_)
 have hno: ¬ ((min (lo:Int) (items.size:Int)==0&&(2:Int)==1&&(items.size - lo+1) / 2==items.size)=true):=by
  rw [show((2:Int)==1)=false by decide,Bool.and_false,Bool.false_and];exact bd
 show wpAny _ _ (if(min (lo:Int) (items.size:Int)==0&&(2:Int)==1&&(items.size - lo+1) / 2==items.size)=true then _ else _) _ _ s
 rw [if_neg hno,yR]
 first
  | exact aa (m:=Builtin.Tuple.tupleExact _) (wpAny_newObj_type (ae ⟨_,rfl,ae h⟩) htake)
  | exact aa (m:=Builtin.Tuple.tupleExact _) (wpAny_newObj_type (aa (ae (ae ⟨_,rfl,ae h⟩))) htake)
  | exact aa (aa (m:=Builtin.Tuple.tupleExact _) (wpAny_newObj_type (ae (ae ⟨_,rfl,ae h⟩)) htake))
  | exact aa (aa (m:=Builtin.Tuple.tupleExact _) (wpAny_newObj_type (ae ⟨_,rfl,ae h⟩) htake))
end
theorem yS {xs:List V} {us:List Value} (h:bI xs us) (f:Nat->Nat): ∀ L:List Nat,bI (L.filterMap fun k=>xs[f k]?) (L.filterMap fun k=>us[f k]?)
 | []=> .nil
 | k::L=>by
  have ih:=yS h f L
  rw [List.filterMap_cons,List.filterMap_cons]
  cases e:xs[f k]? with
  | some x=>
   obtain⟨u,e2,r⟩:=bI.get h e
   rw [e2]
   exact .cons r ih
  | none=>
   have hl:=h.length
   have:us[f k]? =none:=by
    rw [List.getElem?_eq_none_iff] at e ⊢;omega
   rw [this];exact ih
theorem yT {xs:List V} {us:List Value} (h:bI xs us) (lo:Nat):bI (dS xs lo) (dS us lo):=by
 unfold dS
 rw [h.length]
 exact yS h (fun k=>lo+2 * k) _
theorem yU {K:Frag} {ad:Ad} {G:Hp} {ds:List D} {xs:List V} (h:aG K ad G ds xs) (f:Nat->Nat): ∀ L:List Nat,aG K ad G (L.filterMap fun k=>ds[f k]?) (L.filterMap fun k=>xs[f k]?)
 | []=>aG.nil
 | k::L=>by
  have ih:=yU h f L
  rw [List.filterMap_cons,List.filterMap_cons]
  cases e:ds[f k]? with
  | some x=>
   obtain⟨u,e2,r⟩:=h.get e
   rw [e2]
   exact aG.cons r ih
  | none=>
   have hl:=h.length
   have:xs[f k]? =none:=by
    rw [List.getElem?_eq_none_iff] at e ⊢;omega
   rw [this];exact ih
theorem yV {K:Frag} {ad:Ad} {G:Hp} {ds:List D} {xs:List V} (h:aG K ad G ds xs) (lo:Nat):aG K ad G (dS ds lo) (dS xs lo):=by
 have e:xs.length=ds.length:=h.length
 unfold dS
 rw [e]
 exact yU h (fun k=>lo+2 * k) _
section
open AutoSeq1 (wpAny_loadPart')
open MeetsSeq MeetsSeq2 MeetsSeq3 SeqRoads2 SeqAt
end
section
variable {X:Cx} {ad:Ad} {pins:List (Addr×Obj)} {s:Shared} {σ:St} {H G:Hp} {ρ:Rho} {Q:VK} {E:Nat->Hp->Prop} {pos p ap cp tp:Pos} {o a b c tg:Expr} {f g h:F}
theorem aG.rev {ds:List D} {vs:List V} (r:aG X.K ad G ds vs):aG X.K ad G ds.reverse vs.reverse:=by
 induction ds generalizing vs with
 | nil=>cases vs with
  | nil=>exact r
  | cons v vs=>exact absurd r.length (by simp)
 | cons d ds ih=>
  cases vs with
  | nil=>exact absurd r.length (by simp)
  | cons v vs=>
   obtain⟨w,r',e,r1,r2⟩:=r
   cases e
   rw [List.reverse_cons,List.reverse_cons]
   exact(ih r2).append (aG.cons r1 aG.nil)
theorem aK0 {j:Nat} {p2 p3 p4:Pos} (ha:MLk X ad a f):ME X ad (.Subscript a (.Slice none none (some (.UnaryOp .USub (.Constant (.int 1) j p4) p3)) p2) pos) (aM9 f):=by
 intro pins s σ H Q I ⟨G,ρ,E,hG,hS,hx,hr⟩
 refine Subscript_ (L2.thn (ha pins s σ H G ρ aJw Q E I hG hS hx hr) fun v s1 hz_=> ?_)
 obtain⟨x,d1,G1,H1,I1,r1,st1,q1,k1⟩:=hz_
 refine wpAny_Slice ?_
 rw [evalPart_none]
 refine ae (ae ?_)
 rw [evalPart_some]
 have k1':RK X.K ad G1 H1 ((aAw (rK (.int 1)) ρ).bind fun y=>match y with | .int i=>if i= -1 then aJw d1 else .bad | _=> .bad) Q E:=k1
 refine L2.thn (ME.thn (aD3 (nT (d:= .int 1) rfl)) I1 st1.gh (hS.step st1) hx k1') fun vk s2 hz_=> ?_
 obtain⟨y,d2,G2,H2,I2,r2,st2,q2,k2⟩:=hz_
 cases d2<;>try exact ay k2
 rename_i i
 by_cases hi:i= -1
 ·subst hi
  have k3:RK X.K ad G2 H2 (aJw d1) Q E:=k2
  unfold Rep at q2;subst q2
  obtain⟨t,rfl⟩:=r2
  have I4:Inv X pins σ H2 { s2 with heap:=s2.heap.push { cls:= .type "slice",data:= .fields #[.none, .none, .int (-1) t] } }:=I2.kept (t':=s2.toks) fun b ob q=>af _ q
  obtain⟨ds,hd⟩: ∃ ds,d1= .lst ds\/d1= .tup ds:=by cases d1<;>first | exact⟨_, .inl rfl⟩ | exact⟨_, .inr rfl⟩ | exact ay k3
  rcases hd with rfl | rfl
  rotate_left
  ·obtain⟨l,xs,rfl,hq,rq⟩:=(Seq.step q1 st2).items st2.gh rfl
   rcases hq with hq | hq
   rotate_left
   ·exact absurd hq.1 (fun z=>nomatch z)
   cases (show v=Value.ref l from r1)
   obtain⟨its,r,ht,hz⟩:=I4.tuple hq.2
   have hlen:=r.length
   refine tail_any (T:="tuple") ht.typeIs PyProof.Rows.slot_tuple_getitem.lookup ?_ (by with_unfolding_all rfl)
   refine jD ht (Heap.IsSliceOf.new ..) ?_ (by rw [av]<;>omega)
   refine⟨.ref _,_,I4.laid (t':=s2.toks) (o:= .tup xs.reverse) (fun b ob q=>af _ q) (aj _) ?_,rfl,RK.tup_new (xs:=ds.reverse) k3 st2.gh rq.rev (I4.hok.fresh (aj _))⟩
   exact⟨by simpa using hz,_,r.reverse,IsTup.new _ _,⟨_,ag _ rfl,rfl⟩⟩
  obtain⟨l,xs,rfl,hq,rq⟩:=yM st2.gh (Seq.step q1 st2)
  cases (show v=Value.ref l from r1)
  obtain⟨its,r,ht,hz⟩:=I4.list hq
  have hlen:=r.length
  refine tail_any (T:="list") ht.isList.typeIs list_getitem_lookup ?_ (by with_unfolding_all rfl)
  refine wpAny_getItem_list_slice ht.isList (Heap.IsSliceOf.new ..) .none .none (.int (-1) t) (by decide) ?_ (by rw [av]<;>omega)
  rw [krv_pick]
  refine⟨.ref _,_,I4.laid (t':=s2.toks) (o:= .lst xs.reverse) (fun b ob q=>af _ q) (aj _) ?_,rfl,RK.ow_new (xs:=ds.reverse) k3 st2.gh rq.rev (I4.hok.fresh (aj _))⟩
  exact⟨by simpa using hz,_,0,r.reverse,ag _ rfl⟩
 ·have:RK X.K ad G2 H2 (if i= -1 then aJw d1 else .bad) Q E:=k2
  rw [if_neg hi] at this
  exact this.elim
theorem aGz {l:Expr} {j:Nat} {p2 p4:Pos} (ha:MLk X ad a f) (hl:ME X ad l g):ME X ad (.Subscript a (.Slice (some l) none (some (.Constant (.int 2) j p4)) p2) pos) (xB f g):=by
 intro pins s σ H Q I ⟨G,ρ,E,hG,hS,hx,hr⟩
 refine Subscript_ (L2.thn (ha pins s σ H G ρ (fun x=>(g ρ).bind fun y=>rR x y) Q E I hG hS hx hr) fun v s1 hz_=> ?_)
 obtain⟨x,d1,G1,H1,I1,r1,st1,q1,k1⟩:=hz_
 refine wpAny_Slice ?_
 rw [evalPart_some]
 refine L2.thn (ME.thn hl I1 st1.gh (hS.step st1) hx k1) fun vk s2 hz_=> ?_
 obtain⟨y,d2,G2,H2,I2,r2,st2,q2,k2⟩:=hz_
 rw [evalPart_none]
 refine ae ?_
 rw [evalPart_some]
 have k2':RK X.K ad G2 H2 ((rK (.int 2) ρ).bind fun z=>match z with | .int i=>if i=2 then rR d1 d2 else .bad | _=> .bad) Q E:=k2
 refine L2.thn (ME.thn (nT (d:= .int 2) rfl) I2 st2.gh ((hS.step st1).step st2) hx k2') fun vk2 s3 hz_=> ?_
 obtain⟨y3,d3,G3,H3,I3,r3,st3,q3,k3⟩:=hz_
 cases d3<;>try exact ay k3
 rename_i i
 by_cases hi:i=2
 ·subst hi
  have k4:RK X.K ad G3 H3 (rR d1 d2) Q E:=k3
  unfold Rep at q3;subst q3
  obtain⟨t3,rfl⟩:=r3
  cases d1<;>try exact ay k4
  rename_i ds
  cases d2<;>try exact ay k4
  rename_i i
  by_cases hi:0<=i
  ·obtain⟨lo,rfl⟩: ∃ lo:Nat,i=(lo:Int):=⟨i.toNat,by omega⟩
   have k5:RK X.K ad G3 H3 (.ok (.tup (dS ds lo))) Q E:=by
    have:rR (.tup ds) (.int (lo:Int))= .ok (.tup (dS ds lo)):=by
     show(if(0:Int)<=(lo:Int) then R.ok (.tup (dS ds (lo:Int).toNat)) else .bad)=_
     rw [if_pos (by omega),Int.toNat_natCast]
    rw [this] at k4;exact k4
   unfold Rep at q2;subst q2
   obtain⟨t2,rfl⟩:=r2
   have I4:Inv X pins σ H3 { s3 with heap:=s3.heap.push { cls:= .type "slice",data:= .fields #[.int (lo:Int) t2, .none, .int 2 t3] } }:=I3.kept (t':=s3.toks) fun b ob q=>af _ q
   obtain⟨l',xs,rfl,hq,rq⟩:=(Seq.step (Seq.step q1 st2) st3).items st3.gh rfl
   rcases hq with hq | hq
   rotate_left
   ·exact absurd hq.1 (fun z=>nomatch z)
   cases (show v=Value.ref l' from r1)
   obtain⟨its,r,ht,hz⟩:=I4.tuple hq.2
   have hlen:=r.length
   refine tail_any (T:="tuple") ht.typeIs PyProof.Rows.slot_tuple_getitem.lookup ?_ (by with_unfolding_all rfl)
   refine iO ht (Heap.IsSliceOf.new ..) ?_ (by rw [av]<;>omega)
   have hsz:=qA xs lo
   refine⟨.ref _,_,I4.laid (t':=s3.toks) (o:= .tup (dS xs lo)) (fun b ob q=>af _ q) (aj _) ?_,rfl,RK.tup_new (xs:=dS ds lo) k5 st3.gh (yV rq lo) (I4.hok.fresh (aj _))⟩
   exact⟨by omega,_,yT r lo,IsTup.new _ _,⟨_,ag _ rfl,rfl⟩⟩
  ·have:RK X.K ad G3 H3 (if 0<=i then .ok (.tup (dS ds i.toNat)) else .bad) Q E:=k4
   rw [if_neg hi] at this
   exact this.elim
 ·have:RK X.K ad G3 H3 (if i=2 then rR d1 d2 else .bad) Q E:=k3
  rw [if_neg hi] at this
  exact this.elim
theorem aK1 (ha:ME X ad a f) (he: ∀ whole,isTrue a X.env whole=(do let v<-whole;standAt a.pos;holding [v] (truthy v))):MT X ad a (aMc f):=by
 intro pins s σ H Q I ⟨G,ρ,E,hG,hS,hx,ht,hr⟩
 refine isTrue_plain (L2.thn (ha.thn I hG hS hx hr) fun v s1 ⟨x,d,G1,H1,I1,r1,st1,q1,k1⟩=> ?_) (he _)
 cases d<;>try exact ay k1
 ·rename_i b
  have k2:RK X.K ad G1 H1 (.ok (.bl b)) (fun v H'=> ∃ b,v= .bl b/\Q b H') E:=k1
  unfold Rep at q1;subst q1
  cases r1
  obtain⟨b',e,q⟩:=k2.ok_now st1.gh (by unfold Rep;rfl)
  cases e
  exact wpAny_truthy_bool ⟨H1,I1,q⟩
 ·rename_i ds
  have k2:RK X.K ad G1 H1 (.ok (.bl (!ds.isEmpty))) (fun v H'=> ∃ b,v= .bl b/\Q b H') E:=k1
  unfold Rep at q1
  obtain⟨l,xs,rfl,hq,rq⟩:=q1
  cases (show v=Value.ref l from r1)
  obtain⟨its,rv,ht2,hz⟩:=I1.list (st1.gh.seq hq)
  have hl:=rv.length
  have hlen:=rq.length
  have:(sizeLine:Nat)<2 ^ 63 - 1:=by decide
  refine wpAny_truthy_list ht2.isList (by simp only [av];omega) ?_
  obtain⟨b',e,q⟩:=k2.ok_now st1.gh (v:= .bl (!ds.isEmpty)) (by unfold Rep;rfl)
  cases e
  have e2:(!its.toArray.isEmpty)= !ds.isEmpty:=by
   have e3:ds.length=its.length:=by omega
   cases ds with
   | nil=>cases its with
    | nil=>rfl
    | cons _ _=>simp at e3
   | cons _ _=>cases its with
    | nil=>simp at e3
    | cons _ _=>rfl
  rw [e2]
  exact⟨H1,I1.kept (t':=s1.toks+1+1) (fun _ _ q=>q),q⟩
theorem aNq (c1:ME X ad c f) (c2:MT X ad c f):MT X ad c (if aBe c then aMc f else f):=by
 cases c<;>first | exact c2 | exact aK1 c1 (fun _=>rfl)
end
theorem oE (xs:Array Nat) (j:Nat) (hm: ∀ a b,a<=b->b<xs.size->xs.getD b j<j->xs.getD a j<j): ∀ fuel lo hi,hi - lo<=fuel->lo<=hi->hi<=xs.size->(∀ k,k<lo->xs.getD k j<j)->(∀ k,hi<=k->k<xs.size-> ¬ xs.getD k j<j)->
  SetTable.below.go xs j fuel lo hi<=xs.size/\(∀ k,k<SetTable.below.go xs j fuel lo hi->xs.getD k j<j)/\(∀ k,SetTable.below.go xs j fuel lo hi<=k->k<xs.size-> ¬ xs.getD k j<j)
 | 0,lo,hi,hf,hl,hh,h1,h2=>by
  have:lo=hi:=by omega
  subst this
  exact⟨hh,h1,h2⟩
 | fuel+1,lo,hi,hf,hl,hh,h1,h2=>by
  unfold SetTable.below.go
  by_cases hlt:lo<hi
  ·rw [if_pos hlt]
   dsimp only
   by_cases hq:xs.getD ((lo+hi) / 2) j<j
   ·rw [if_pos hq]
    exact oE xs j hm fuel _ hi (by omega) (by omega) hh (fun k hk=>hm k _ (by omega) (by omega) hq) h2
   ·rw [if_neg hq]
    exact oE xs j hm fuel lo _ (by omega) (by omega) (by omega) h1 fun k hk hs z=>hq (hm _ k hk hs z)
  ·rw [if_neg hlt]
   have:lo=hi:=by omega
   subst this
   exact⟨hh,h1,h2⟩
theorem j9 {ps:List Nat} (hr:ps.Pairwise (· < ·)) (j:Nat):SetTable.below ps.toArray j<=ps.length/\(∀ k (hk:k<ps.length),k<SetTable.below ps.toArray j->ps[k]<j)/\(∀ k (hk:k<ps.length),SetTable.below ps.toArray j<=k->j<=ps[k]):=by
 have gd: ∀ k (hk:k<ps.length),ps.toArray.getD k j=ps[k]:=fun k hk=>by simp [Array.getD,hk]
 have hm: ∀ a b,a<=b->b<ps.toArray.size->ps.toArray.getD b j<j->ps.toArray.getD a j<j:=fun a b hab hb h=>by
  have hb':b<ps.length:=by simpa using hb
  rw [gd b hb'] at h
  rw [gd a (by omega)]
  rcases Nat.lt_or_eq_of_le hab with z | z
  ·have:=List.pairwise_iff_getElem.mp hr a b (by omega) hb' z;omega
  ·subst z;exact h
 have:=oE ps.toArray j hm ps.toArray.size 0 ps.toArray.size (by omega) (by omega) (by omega) (fun k hk=>by omega) (fun k h1 h2=>by omega)
 obtain⟨a,b,c⟩:=this
 have a':SetTable.below ps.toArray j<=ps.toArray.size:=a
 rw [av] at a'
 refine⟨a',fun k hk h=> ?_,fun k hk h=> ?_⟩
 ·have:=b k h;rw [gd k hk] at this;exact this
 ·have:=c k h (by simpa using hk);rw [gd k hk] at this;omega
theorem aCb {ps:List Nat} (hr:ps.Pairwise (· < ·)) (i:Nat) (hi:i<ps.length):SetTable.below ps.toArray (ps[i]+1)=i+1:=by
 obtain⟨a,b,c⟩:=j9 hr (ps[i]+1)
 have h1: ¬ SetTable.below ps.toArray (ps[i]+1)<=i:=fun h=>by have:=c i hi h;omega
 have h2: ¬ i+1<SetTable.below ps.toArray (ps[i]+1):=fun h=>by
  have:=b (i+1) (by omega) h
  have:=List.pairwise_iff_getElem.mp hr i (i+1) hi (by omega) (by omega)
  omega
 omega
theorem v0 {ps:List Nat} (hr:ps.Pairwise (· < ·)):SetTable.below ps.toArray 0=0:=by
 obtain⟨a,b,c⟩:=j9 hr 0
 rcases Nat.eq_zero_or_pos (SetTable.below ps.toArray 0) with z | z
 ·exact z
 ·have:=b 0 (by omega) z;omega
theorem yW {ps:List Nat} (hr:ps.Pairwise (· < ·)) {j:Nat} (hj:j∉ps): ∃ qs:List Nat,SetTable.insertAt ps.toArray (SetTable.below ps.toArray j) j=qs.toArray/\qs.Pairwise (· < ·)/\qs.Perm (j::ps):=by
 obtain⟨a,b,c⟩:=j9 hr j
 refine⟨ps.take (SetTable.below ps.toArray j)++j::ps.drop (SetTable.below ps.toArray j), ?_, ?_, ?_⟩
 ·apply Array.toList_inj.mp
  rw [SetTable.toList_insertAt]
 ·rw [List.pairwise_append,List.pairwise_cons]
  refine⟨hr.sublist (List.take_sublist _ _),⟨fun x hx=> ?_,hr.sublist (List.drop_sublist _ _)⟩,fun x hx y hy=> ?_⟩
  ·obtain⟨k,hk,rfl⟩:=List.getElem_of_mem hx
   rw [List.getElem_drop]
   rw [List.length_drop] at hk
   have:=c (SetTable.below ps.toArray j+k) (by omega) (by omega)
   rcases Nat.lt_or_eq_of_le this with z | z
   ·exact z
   ·exact absurd (by rw [z];exact List.getElem_mem _) hj
  ·obtain⟨k,hk,rfl⟩:=List.getElem_of_mem hx
   rw [List.getElem_take]
   rw [List.length_take] at hk
   have h1:=b k (by omega) (by omega)
   rcases aq.mp hy with rfl | hy
   ·exact h1
   ·obtain⟨l,hl,rfl⟩:=List.getElem_of_mem hy
    rw [List.getElem_drop]
    rw [List.length_drop] at hl
    have:=c (SetTable.below ps.toArray j+l) (by omega) (by omega)
    omega
 ·exact List.perm_middle.trans (List.Perm.of_eq (by rw [List.take_append_drop]))
noncomputable def tab (m mv:Nat) (ps:List Nat):SetTable:={ mask:=m,place:=ps.toArray,dummies:= #[],finger:=0,led:=true,moves:=mv,plain:=true }
noncomputable def fY (es:Array (Int×Value)) (ep:Nat) (t:SetTable):Obj:={ cls:= .type "set",dict:=none,data:= .set es ep t }
section
variable {prog:Program} {w:World} {A:Around} {E:Value->Shared->Prop} {s:Shared}
theorem qB {a:Addr} {es es':Array (Int×Value)} {ep:Nat} {t t':SetTable} {Q:Unit->Shared->Prop} (ho:s.heap.get? a=some (fY es ep t)) (hz:es'.size<scanBound)
  (h: ∀ h',Heap.SameBut a s.heap h'->h'.get? a=some (fY es' (ep+1) t')->Q () { s with heap:=h' }):wpAny (model prog w) A (storeSet a es' t') Q E s:=by
 refine wpAny_storeSet_of ho rfl ?_ (fits_of_scanBound hz)
 refine h _ (Heap.SameBut.update ..) ?_
 have:=Heap.get?_update_self (Obj.putSet es' t') ho rfl
 exact this
end
section
variable {prog:Program} {w:World} {A:Around} {E:Value->Shared->Prop} {s:Shared}
noncomputable def ddS (acc:List Nat) (n:Nat):List Nat:=if n∈acc then acc else n::acc
noncomputable def dd (ns:List Nat):List Nat:=ns.foldl ddS []
end
section
variable {prog:Program} {w:World} {A:Around} {E:Value->Shared->Prop} {s:Shared}
noncomputable def gG (w:World):Obj:=fY #[] 0 (.fresh 0 0 (!w.params.followText "set-order"))
theorem aCc (a:Value) {Q:Value->Shared->Prop} (h:Q (.ref s.heap.objs.size) { s with heap:=s.heap.push (gG w) }):
  codeAny (model prog w) A (.call (.builtin "set.__new__") ⟨[.type "set",a],[]⟩) (wants Q E) s:=by
 refine codeAny_of_tree ?_
 show wpAny _ A.in1 (do checkBuiltinCall "set.__new__" ⟨[.type "set",a],[]⟩;again (.builtin "set.__new__" ⟨[.type "set",a],[]⟩)) _ _ s
 refine aa (wpAny_of_eq (PySem.F.newCall_set_1 a) (ae ⟨plainId_quiet PySem.F.plain_set_new _,codeAny_builtin PySem.F.entry_set_new ?_⟩))
 rw [Around.under_plainId PySem.F.plain_set_new _]
 unfold Builtin.«set.__new__» Builtin.Frozenset.newClass
 have hsub:=sub_set_self
 obtain⟨hp,g,d,tk,os⟩:=s
 dsimp only
 wp_walk
 refine wpAny_askSetting (ae ?_)
 dsimp only
 simp only [newObj]
 refine aa (wpAny_alloc (ae ?_))
 exact ae h
end
theorem cR:PySem.Slot "set_iterator" "__next__" "set_iterator.__next__":=
 .of (owner:="set_iterator") (n:="__next__") (by rw [typeLookup_type,builtinLookup_eq_fast];kernel_rfl) (by decide+kernel) (by decide+kernel) (by decide+kernel)
  (by first | exact .inl (by decide+kernel) | exact .inr (by decide+kernel)) (by rw [isSubtype_type];kernel_rfl)
theorem iP:entryFor table "set_iterator.__next__"=some Builtin.«set_iterator.__next__»:=entryFor_of_tree (by kernel_rfl)
theorem uC:Manifest.owners.lookup (String.ofList ['r','o','t','a','r','e','t','i','_','t','e','s'].reverse)=some Manifest.sig_set_iterator:=by kernel_rfl
theorem jR (a:Value):argsOk "set_iterator.__next__" ⟨[a],[]⟩:=by
 unfold argsOk
 rw [signature?_of (id:="set_iterator.__next__") (n:=['_','_','t','x','e','n','_','_']) (o:=['r','o','t','a','r','e','t','i','_','t','e','s']) (by kernel_rfl) uC];kernel_rfl
theorem qC:entryFor table "set.__iter__"=some Builtin.«frozenset.__iter__»:=
 entryFor_alias (id':="frozenset.__iter__") (by kernel_rfl) rfl (by decide+kernel) (by kernel_rfl)
theorem mU {α:Type}: ∀ (l:List α) (i:Nat) (x:α),l[i]? =some x->(x::l.eraseIdx i).Perm l
 | [],i,x,h=>by simp at h
 | a::l,0,x,h=>by
  have:a=x:=by simpa using h
  subst this;simp
 | a::l,i+1,x,h=>by
  have ih:=mU l i x (by simpa using h)
  rw [List.eraseIdx_cons_succ]
  exact(List.Perm.swap a x _).trans (ih.cons a)
theorem yX {α:Type} (next:Nat->Nat): ∀ (n k:Nat) (l:List α) (out:Array α),l.length=n->(pickOrder.go next n k l out).toList.Perm (out.toList++l)
 | 0,k,l,out,h=>by
  have:l=[]:=List.length_eq_zero_iff.mp h
  subst this
  unfold pickOrder.go
  simp
 | n+1,k,l,out,h=>by
  unfold pickOrder.go
  have lt:next k % l.length<l.length:=Nat.mod_lt _ (by omega)
  rw [ba lt]
  dsimp only
  have e:=ba lt
  have p:=mU l _ _ e
  refine(yX next n (k+1) _ _ (by rw [List.length_eraseIdx_of_lt lt];omega)).trans ?_
  rw [Array.toList_push,List.append_assoc]
  exact p.append_left _
theorem yY {α:Type} (next:Nat->Nat) (xs:Array α):(pickOrder next xs).toList.Perm xs.toList:=by
 have:=yX next xs.size 0 xs.toList #[] (by simp)
 simpa [pickOrder] using this
noncomputable def mB (sl i a n ep:Nat):Obj:={ cls:= .type "set_iterator",data:= .fields #[.int sl 0, .int i 0, .ref a, .int n 0, .int ep 0] }
noncomputable def qD (ps:List Nat):Nat->Nat
 | 0=>0
 | i+1=>ps.getD i 0+1
noncomputable def j4 (w:World) (a ep:Nat) (es:Array (Int×Value)):Array (Int×Value):=if w.params.followText "set-order" then pickOrder (w.params.setOrder a ep) es else es
theorem iQ (w:World) (a ep:Nat) (es:Array (Int×Value)):(j4 w a ep es).toList.Perm es.toList:=by
 unfold j4
 split
 ·exact yY _ _
 ·exact List.Perm.refl _
def fR (w:World) (es:Array (Int×Value)) (t:SetTable) (ps:List Nat):Prop:=
 t.fits es.size=true/\(w.params.followText "set-order"=false->t.place=ps.toArray/\ps.Pairwise (· < ·)/\ps.length=es.size/\t.led=true/\t.plain=true)
noncomputable def lA (w:World) (ps:List Nat) (i:Nat):Nat:=if w.params.followText "set-order" then 0 else qD ps i
section
variable {prog:Program} {w:World} {A:Around} {E:Value->Shared->Prop} {s:Shared}
theorem uD {a ep i:Nat} {es:Array (Int×Value)} {t:SetTable} {ps:List Nat} {Q:Option (Value×Nat)->Shared->Prop} (ho:s.heap.get? a=some (fY es ep t)) (W:fR w es t ps) (hi:i<=es.size)
  (h:Q ((j4 w a ep es)[i]?.map fun e=>(e.2,lA w ps (i+1))) s):wpAny (model prog w) A (setNext a (lA w ps i) i ep) Q E s:=by
 unfold setNext
 refine aa (wpAny_setState_of ho rfl W.1 ?_)
 dsimp only
 unfold setsByText
 refine aa (aa (wpAny_askSetting (ae ?_)))
 dsimp only
 cases e:w.params.followText "set-order" with
 | true=>
  have e':(model prog w).w.params.followText "set-order"=true:=e
  rw [e']
  simp only [bne_self_eq_false,ax,↓reduceIte]
  unfold setWalk
  refine aa (aa (wpAny_setState_of ho rfl W.1 ?_))
  dsimp only
  unfold setsByText
  refine aa (aa (wpAny_askSetting (ae ?_)))
  dsimp only
  rw [e']
  simp only [↓reduceIte]
  refine aa (wpAny_askSetting (ae (ae ?_)))
  unfold j4 lA at h
  unfold lA
  rw [e] at h ⊢
  exact h
 | false=>
  have e':(model prog w).w.params.followText "set-order"=false:=e
  obtain⟨w1,w2,w3,w4,w5⟩:=W.2 e
  rw [e']
  simp only [ax,↓reduceIte]
  show wpAny _ _ (if(!t.plain&&decide (es.size > 1))=true then _ else _) Q E s
  rw [w5]
  simp only [Bool.not_true,Bool.false_and,ax,↓reduceIte]
  show wpAny _ _ ((if(!t.led&& !es.isEmpty)=true then unsupported "set:maker-not-led" else pure ()) >>= _) Q E s
  rw [w4]
  simp only [Bool.not_true,Bool.false_and,ax,↓reduceIte]
  refine aa (ae ?_)
  have bl:SetTable.below ps.toArray (qD ps i)=i:=by
   cases i with
   | zero=>exact v0 w2
   | succ i=>
    have:=aCb w2 i (by omega)
    have e3:qD ps (i+1)=ps[i]+1:=by
     show ps.getD i 0+1=_
     have:i<ps.length:=by omega
     simp [this]
    rw [e3]
    exact this
  have sl:lA w ps i=qD ps i:=by unfold lA;rw [e];rfl
  have sl1:lA w ps (i+1)=ps.getD i 0+1:=by unfold lA;rw [e];rfl
  have od:j4 w a ep es=es:=by unfold j4;rw [e];rfl
  rw [sl1,od] at h
  rw [sl,w1,bl]
  refine ae ?_
  by_cases z:i<es.size
  ·have e1:es[i]? =some es[i]:=Array.getElem?_eq_getElem z
   have e2:ps.toArray[i]? =some (ps.getD i 0):=by
    have:i<ps.length:=by omega
    simp [this]
   rw [e1] at h ⊢
   rw [e2]
   exact h
  ·have e1:es[i]? =none:=Array.getElem?_eq_none (by omega)
   rw [e1] at h ⊢
   exact h
theorem aG0 {it a ep i:Nat} {es:Array (Int×Value)} {t:SetTable} {ps:List Nat} {x:Int×Value} {Q:Option Value->Shared->Prop} (hit:s.heap.get? it=some (mB (lA w ps i) i a es.size ep)) (ho:s.heap.get? a=some (fY es ep t)) (W:fR w es t ps) (hx:(j4 w a ep es)[i]? =some x)
  (hQ: ∀ h',h'.get? it=some (mB (lA w ps (i+1)) (i+1) a es.size ep)->Heap.SameBut it s.heap h'->Q (some x.2) { s with heap:=h' }):wpAny (model prog w) A (pyNext (.ref it)) Q E s:=by
 have hT:s.TypeIs (.ref it) "set_iterator":=⟨_,hit,rfl⟩
 have hi:i<=es.size:=by
  have h1:=(iQ w a ep es).length_eq
  have h2:=(Array.getElem?_eq_some_iff.mp hx).1
  simp at h1
  omega
 unfold pyNext
 refine aa (wpAny_attempt (wpAny_callSpecial?_slot (name:=Str.ofString "__next__") hT cR (wpAny_call_entry cR hT iP ?_ (jR _))))
 show wpAny _ _ (fieldsOf (.ref it) >>= _) _ _ s
 refine aa (wpAny_fieldsOf hit rfl ?_)
 dsimp only
 show wpAny _ _ (setEntries a >>= _) _ _ s
 refine aa (wpAny_setEntries_of ho rfl W.1 ?_)
 simp only [bne_self_eq_false,ax,↓reduceIte]
 show wpAny _ _ (setNext a (lA w ps i) i ep >>= _) _ _ s
 refine aa (uD ho W hi ?_)
 rw [hx]
 show wpAny _ _ (setField (.ref it) 0 (rawInt (lA w ps (i+1))) >>= _) _ _ s
 refine aa (wpAny_setField_rec hit (by simp) fun h1 i1 s1=> ?_)
 show wpAny _ _ (setField (.ref it) 1 (rawInt (↑i+1)) >>= _) _ _ _
 refine aa (wpAny_setField_rec i1 (by simp) fun h2 i2 s2=> ?_)
 refine ae ⟨_,rfl,ae (hQ h2 i2 (s1.trans s2))⟩
theorem aK2 {it a ep i:Nat} {es:Array (Int×Value)} {t:SetTable} {ps:List Nat} {Q:Option Value->Shared->Prop} (hh:A.handled=none) (hit:s.heap.get? it=some (mB (lA w ps i) i a es.size ep)) (ho:s.heap.get? a=some (fY es ep t)) (W:fR w es t ps) (hi:i=es.size)
  (hQ: ∀ h',Heap.ExtBut it s.heap h'->Q none { s with heap:=h' }):wpAny (model prog w) A (pyNext (.ref it)) Q E s:=by
 have hT:s.TypeIs (.ref it) "set_iterator":=⟨_,hit,rfl⟩
 have hx:(j4 w a ep es)[i]? =none:=by
  have h1:=(iQ w a ep es).length_eq
  simp at h1
  exact Array.getElem?_eq_none (by omega)
 unfold pyNext
 refine aa (wpAny_attempt (wpAny_callSpecial?_slot (name:=Str.ofString "__next__") hT cR (wpAny_call_entry cR hT iP ?_ (jR _))))
 show wpAny _ _ (fieldsOf (.ref it) >>= _) _ _ s
 refine aa (wpAny_fieldsOf hit rfl ?_)
 dsimp only
 show wpAny _ _ (setEntries a >>= _) _ _ s
 refine aa (wpAny_setEntries_of ho rfl W.1 ?_)
 simp only [bne_self_eq_false,ax,↓reduceIte]
 show wpAny _ _ (setNext a (lA w ps i) i ep >>= _) _ _ s
 refine aa (uD ho W (by omega) ?_)
 rw [hx]
 show wpAny _ _ (setField (.ref it) 2 .none >>= _) _ _ s
 refine aa (wpAny_setField_rec hit (by simp) fun h1 i1 s1=> ?_)
 show wpAny _ _ (newExc (.type "StopIteration") [] >>= _) _ _ _
 refine aa ?_
 simp only [newExc,newTuple]
 refine aa (wpAny_newObj_type ?_ (by size_fits))
 refine aa (m:=firstArgMember _ _) (wpAny_of_eq (a:=Value.none) (by first | rfl | (simp only [firstArgMember];rfl)) ?_)
 refine wpAny_newObj_type ?_ (by size_fits)
 simp only [raiseNew]
 refine aa (wpAny_handled ?_)
 rw [show A.in1.handled=none from hh]
 refine aa (ae (wpAny_throw ?_))
 refine aa (wpAny_isInstance (T:="StopIteration") (b:=true) ⟨_,ag _ rfl,rfl⟩ isSubtype_stop ?_)
 exact ae (hQ _ ((s1.extBut.push _).push _))
theorem aK3 {a ep:Nat} {es:Array (Int×Value)} {t:SetTable} {ps:List Nat} {Q:Value->Shared->Prop} (ho:s.heap.get? a=some (fY es ep t)) (W:fR w es t ps)
  (hQ:Q (.ref s.heap.objs.size) { s with heap:=s.heap.push (mB (lA w ps 0) 0 a es.size ep) }):wpAny (model prog w) A (pyIter (.ref a)) Q E s:=by
 have hT:s.TypeIs (.ref a) "set":=⟨_,ho,rfl⟩
 have sl:lA w ps 0=0:=by unfold lA qD;split<;>rfl
 rw [sl] at hQ
 refine wpAny_pyIter_slot hT PySem.F.slot_set_iter (wpAny_call_entry PySem.F.slot_set_iter hT qC ?_ (PySem.F.args_set_iter_1 _))
 unfold Builtin.«frozenset.__iter__» Builtin.Frozenset.slot0 slotArgs
 simp only [List.isEmpty_nil,Bool.not_true,ax,↓reduceIte,bind_assoc,List.length_nil,bne_self_eq_false]
 unfold Builtin.Frozenset.addrOf Builtin.Frozenset.sizeOf
 refine aa (ae ?_)
 try dsimp only
 refine aa (ae ?_)
 refine aa (aa (wpAny_setEntries_of ho rfl W.1 (ae ?_)))
 unfold setDrawn
 refine aa (aa (wpAny_setState_of ho rfl W.1 ?_))
 dsimp only
 unfold setsByText
 refine aa (aa (wpAny_askSetting (ae ?_)))
 have nd:(!w.params.followText "set-order"&&(!t.plain&&decide (es.size > 1)))=false:=by
  cases e:w.params.followText "set-order" with
  | true=>rfl
  | false=>rw [(W.2 e).2.2.2.2];rfl
 refine ae ?_
 show wpAny _ _ (if(!w.params.followText "set-order"&&(!t.plain&&decide (es.size > 1)))=true then _ else _) _ _ _
 rw [nd]
 simp only [ax,↓reduceIte]
 refine aa (ae (aa (wpAny_setEpoch_of ho rfl W.1 ?_)))
 exact aa (wpAny_newObj_type (ae ⟨_,rfl,"set_iterator",_,⟨_,ag _ rfl,rfl⟩,cR.lookup,hQ⟩))
end
theorem jS:PySem.Slot "set_iterator" "__iter__" "set_iterator.__iter__":=
 .of (owner:="set_iterator") (n:="__iter__") (by rw [typeLookup_type,builtinLookup_eq_fast];kernel_rfl) (by decide+kernel) (by decide+kernel) (by decide+kernel)
  (by first | exact .inl (by decide+kernel) | exact .inr (by decide+kernel)) (by rw [isSubtype_type];kernel_rfl)
theorem oF:entryFor table "set_iterator.__iter__"=some Builtin.«dict_keyiterator.__iter__»:=
 entryFor_alias (id':="dict_keyiterator.__iter__") (by kernel_rfl) (by first | rfl | decide+kernel | (unfold String.splitOn;simp+decide [String.splitOnAux])) (by decide+kernel) (by kernel_rfl)
theorem qE (a:Value):argsOk "set_iterator.__iter__" ⟨[a],[]⟩:=by
 unfold argsOk
 rw [signature?_of (id:="set_iterator.__iter__") (n:=['_','_','r','e','t','i','_','_']) (o:=['r','o','t','a','r','e','t','i','_','t','e','s']) (by kernel_rfl) uC];kernel_rfl
section
variable {prog:Program} {w:World} {A:Around} {E:Value->Shared->Prop} {s:Shared}
theorem aCd {it a ep:Nat} {es:Array (Int×Value)} {t:SetTable} {ps:List Nat} (hh:A.handled=none) (hne:a≠it) (W:fR w es t ps):
  Walks prog w A it [it,a] [it] es.size (fun i v=> ∃ x,(j4 w a ep es)[i]? =some x/\v=x.2) (fun i h=>h.get? it=some (mB (lA w ps i) i a es.size ep)/\h.get? a=some (fY es ep t)) where
 sub:=fun b hb=>by simp at hb;simp [hb]
 frame:=fun _ _ _ st hk=>⟨hk it (by simp) _ st.1,hk a (by simp) _ st.2⟩
 item:=fun i s Q E hi st hQ=>by
  have hl:i<(j4 w a ep es).size:=by
   have:=(iQ w a ep es).length_eq
   simp at this
   omega
  refine aG0 st.1 st.2 W (x:=(j4 w a ep es)[i]) (Array.getElem?_eq_getElem hl) fun h' i' hs=> ?_
  exact hQ _ h' s.toks ⟨_,Array.getElem?_eq_getElem hl,rfl⟩ ⟨i',(hs.2 a hne).trans st.2⟩ fun b o hb e=>hs.extBut b o (fun z=>hb (by simp [z])) e
 done:=fun s Q E st hQ=>aK2 hh st.1 st.2 W rfl fun h' he=>hQ h' s.toks fun b o hb e=>he b o (fun z=>hb (by simp [z])) e
 self:=fun i s Q E st hQ=>by
  have hT:s.TypeIs (.ref it) "set_iterator":=⟨_,st.1,rfl⟩
  refine wpAny_pyIter_slot hT jS (wpAny_call_entry jS hT oF ?_ (qE _))
  show wpAny _ _ (ret (.ref it)) _ _ s
  exact ae ⟨_,rfl,"set_iterator",_,hT,cR.lookup,hQ⟩
theorem sH {a ep:Nat} {es:Array (Int×Value)} {t:SetTable} {ps:List Nat} {Q:List Value->Shared->Prop} (hh:A.handled=none) (ho:s.heap.get? a=some (fY es ep t)) (W:fR w es t ps) (hz:es.size<=sizeLine)
  (hQ: ∀ h' tk (acc:Array Value),(∀ b o,s.heap.get? b=some o->h'.get? b=some o)->s.toks<=tk->acc.toList.Perm (es.toList.map (·.2))->Q acc.toList { s with heap:=h',toks:=tk }):
  wpAny (model prog w) A (collect (.ref a)) Q E s:=by
 unfold collect
 refine aa (wpAny_runValue (codeAny_builtin PySem.F.entry_proto_collect ?_))
 rw [Around.under_plainId PySem.F.plain_proto_collect _]
 show wpAny _ A.in1 (newList [] >>= fun l=>again (.builtin "list.__iadd__" ⟨[l, .ref a],[]⟩)) _ _ s
 refine aa (wpAny_newObj_type ?_)
 refine ae ⟨plainId_quiet PySem.F.plain_list_iadd _,codeAny_builtin PySem.F.entry_list_iadd ?_⟩
 rw [Around.under_plainId PySem.F.plain_list_iadd _]
 have ha:a<s.heap.objs.size:=ah ho
 have h1:Builtin.List.listSameRef (.ref s.heap.objs.size) (.ref a)=false:=by simp [Builtin.List.listSameRef,Nat.ne_of_gt ha]
 have ho1:(s.heap.push { cls:= .type "list",data:= .seq ([]:List Value).toArray }).get? a=some (fY es ep t):=af _ ho
 show wpAny _ A.in1 (Builtin.List.listExtendWith (.ref s.heap.objs.size) (.ref a) (.ref s.heap.objs.size)) _ _ _
 unfold Builtin.List.listExtendWith
 refine aa (wpAny_typeOf (T:="set") ⟨_,ho1,rfl⟩ ?_)
 rw [if_neg (by rw [h1];decide)]
 refine aa (aK3 (s:={ s with heap:=s.heap.push { cls:= .type "list",data:= .seq ([]:List Value).toArray } }) ho1 W ?_)
 refine aa (wpAny_holding ?_)
 unfold Builtin.List.listLengthHint
 refine aa (wpAny_specialOf (T:="set") ⟨_,af _ ho1,rfl⟩ PySem.F.slot_set_len.lookup ?_)
 (generalize hid:("set.__len__":String)=id0;(fail_if_success (clear hid id0));wp_delta;rw [show splitId id0=some ("set","__len__") from by subst hid;decide+kernel];subst hid)
 refine aa (wpAny_isInstance (T:="set") (b:=true) ⟨_,af _ ho1,rfl⟩ sub_set_self ?_)
 show wpAny _ A.in1 (typeOf (.ref a) >>= _) _ _ _
 refine aa (wpAny_typeOf (T:="set") ⟨_,af _ ho1,rfl⟩ ?_)
 refine ae ?_
 have hsz:(s.heap.push { cls:= .type "list",data:= .seq ([]:List Value).toArray }).objs.size=s.heap.objs.size+1:=ai ..
 have hL:(s.heap.push { cls:= .type "list",data:= .seq ([]:List Value).toArray }).get? s.heap.objs.size=some { cls:= .type "list",data:= .seq ([]:List Value).toArray }:=ag _ rfl
 have k0: ∀ b o,s.heap.get? b=some o->(s.heap.push { cls:= .type "list",data:= .seq ([]:List Value).toArray }).get? b=some o:=fun b o e=>af _ e
 dsimp only
 generalize s.heap.push { cls:= .type "list",data:= .seq ([]:List Value).toArray }=H1 at ho1 hsz hL k0 ⊢
 have hI:(H1.push (mB (lA w ps 0) 0 a es.size ep)).get? H1.objs.size=some (mB (lA w ps 0) 0 a es.size ep):=ag _ rfl
 have hL2:(H1.push (mB (lA w ps 0) 0 a es.size ep)).get? s.heap.objs.size=some { cls:= .type "list",data:= .seq ([]:List Value).toArray }:=af _ hL
 have k1: ∀ b o,H1.get? b=some o->(H1.push (mB (lA w ps 0) 0 a es.size ep)).get? b=some o:=fun b o e=>af _ e
 generalize H1.push (mB (lA w ps 0) 0 a es.size ep)=H2 at hI hL2 k1 ⊢
 show wpAny _ A.in1 (rule "list.extend.makes-room" >>= fun _=>Builtin.List.listTouch (.ref s.heap.objs.size) >>= fun _=>again (.builtin "list.extend.loop" ⟨[.ref s.heap.objs.size, .ref H1.objs.size, .ref s.heap.objs.size],[]⟩)) _ _ { s with heap:=H2 }
 refine aa (wpAny_rule (aa ?_))
 show wpAny _ A.in1 (updateSeq s.heap.objs.size (·.push .none) >>= fun _=>updateSeq s.heap.objs.size (·.pop)) _ _ _
 refine aa (wpAny_updateSeq hL2 rfl ?_)
 have hL3:=Heap.get?_update_self (Obj.mapSeq (·.push Value.none)) hL2 rfl
 refine wpAny_updateSeq hL3 rfl ?_
 have hL4:=Heap.get?_update_self (Obj.mapSeq (·.pop)) hL3 rfl
 have oth: ∀ b o,b≠s.heap.objs.size->H2.get? b=some o->((H2.update s.heap.objs.size (Obj.mapSeq (·.push Value.none))).update s.heap.objs.size (Obj.mapSeq (·.pop))).get? b=some o:=
  fun b o hb e=>(Heap.get?_update_other _ _ (Ne.symm hb)).trans ((Heap.get?_update_other _ _ (Ne.symm hb)).trans e)
 have ne1:H1.objs.size≠s.heap.objs.size:=by omega
 have ne2:a≠s.heap.objs.size:=by omega
 have ne3:a≠H1.objs.size:=by omega
 have hSf:s.heap.objs.size∉[H1.objs.size,a]:=by simp;omega
 refine ae ⟨plainId_quiet PySem.F.plain_extend_loop _,codeAny_extend_loopS ((aCd (A:=A.in1) hh ne3 W).toS) hz _ hSf _ es.size 0 _ _ _ rfl (bq _) ⟨oth _ _ ne1 hI,oth _ _ ne2 (k1 _ _ ho1)⟩ hL4 (ItemsOf.nil _) fun s' acc c hm hS' hacc=> ?_⟩
 show wpAny _ A (load s.heap.objs.size >>= _) _ _ s'
 refine aa (wpAny_load hS' ?_)
 obtain⟨h',g',d',tk',os'⟩:=s'
 have eg:g'=s.gens:=hm.gens
 have ed:d'=s.drawn:=hm.drawn
 have eo:os'=s.os:=hm.os
 subst eg;subst ed;subst eo
 refine ae (hQ h' tk' acc (fun b o e=> ?_) hm.toks ?_)
 ·have hb:b<s.heap.objs.size:=ah e
  exact hm.heap b o (by simp only [aq,List.not_mem_nil,or_false,not_or];exact⟨bg hb,by rw [hsz];exact bg (Nat.lt_succ_of_lt hb)⟩) (oth b o (bg hb) (k1 b o (k0 b o e)))
 ·have e1:acc.toList=(j4 w a ep es).toList.map (·.2):=by
   have lp:=(iQ w a ep es).length_eq
   simp at lp
   apply List.ext_getElem?
   intro i
   rw [List.getElem?_map,Array.getElem?_toList,Array.getElem?_toList]
   by_cases z:i<acc.size
   ·obtain⟨x,h1,h2⟩:=hacc.2 i _ (Array.getElem?_eq_getElem z)
    rw [h1,Array.getElem?_eq_getElem z,h2];rfl
   ·rw [Array.getElem?_eq_none (by omega),Array.getElem?_eq_none (by rw [lp, <-hacc.1];omega)];rfl
  rw [e1]
  exact(iQ w a ep es).map _
end
noncomputable def tbl (m mv:Nat) (led:Bool) (ps:List Nat):SetTable:={ mask:=m,place:=ps.toArray,dummies:= #[],finger:=0,led:=led,moves:=mv,plain:=true }
noncomputable def adv (m:Nat) (p:SetTable.Probe):SetTable.Probe:=(tab m 0 []).advance p
noncomputable def pr (m:Nat) (h:Int):Nat->SetTable.Probe
 | 0=>(tab m 0 []).probeStart h
 | k+1=>adv m (pr m h k)
theorem aEg (m:Nat) (h:Int): ∀ k,(pr m h k).dummy=none
 | 0=>rfl
 | k+1=>by
  have ih:=aEg m h k
  show(adv m (pr m h k)).dummy=none
  unfold adv SetTable.advance
  split
  ·exact ih
  ·exact ih
noncomputable def lp (m:Nat) (h:Int):Nat->Nat×Nat
 | 0=>(SetTable.bits h % (m+1),SetTable.bits h)
 | r+1=>SetTable.leap m (lp m h r).1 (lp m h r).2
theorem uE (m:Nat) (h:Int) (k:Nat): ∀ a,a<=(pr m h k).more->pr m h (k+a)={ pr m h k with j:=(pr m h k).j+a,more:=(pr m h k).more - a }
 | 0,_=>rfl
 | a+1,ha=>by
  have ih:=uE m h k a (by omega)
  show adv m (pr m h (k+a))=_
  rw [ih]
  unfold adv SetTable.advance
  rw [if_pos (by dsimp only;omega)]
  dsimp only
  congr 1
theorem aK4 (m:Nat) (h:Int): ∀ r, ∃ k,k<=10 * r/\pr m h k={ j:=(lp m h r).1,more:=SetTable.runEnd m (lp m h r).1 - (lp m h r).1,i:=(lp m h r).1,perturb:=(lp m h r).2,dummy:=none }
 | 0=>⟨0,aj _,rfl⟩
 | r+1=>by
  obtain⟨k,hk,e⟩:=aK4 m h r
  have hm:(pr m h k).more<=9:=by
   rw [e]
   show SetTable.runEnd m (lp m h r).1 - (lp m h r).1<=9
   unfold SetTable.runEnd
   split<;>omega
  refine⟨k+(pr m h k).more+1,by omega, ?_⟩
  show adv m (pr m h (k+(pr m h k).more))=_
  rw [uE m h k _ (aj _)]
  unfold adv SetTable.advance
  rw [if_neg (by dsimp only;omega),e]
  rfl
theorem yZ (m:Nat) (h:Int): ∀ r,(lp m h r).2=SetTable.bits h / 32 ^ r
 | 0=>by simp [lp]
 | r+1=>by
  show(lp m h r).2 / 32=_
  rw [yZ m h r,Nat.div_div_eq_div_mul,Nat.pow_succ]
theorem aG1 (h:Int):SetTable.bits h<2 ^ 64:=by
 unfold SetTable.bits
 have h1:=Int.emod_lt_of_pos h (show(0:Int)<2 ^ 64 by decide)
 have h2:=Int.emod_nonneg h (show(2 ^ 64:Int)≠0 by decide)
 have e:(2 ^ 64:Int)=((2 ^ 64:Nat):Int):=by decide
 omega
noncomputable def fx (m x:Nat):Nat:=(x * 5+1) % (m+1)
noncomputable def itf (m:Nat):Nat->Nat->Nat
 | 0,x=>x
 | s+1,x=>fx m (itf m s x)
theorem lB (m:Nat) (a x:Nat): ∀ b,itf m (a+b) x=itf m b (itf m a x)
 | 0=>rfl
 | b+1=>by
  show fx m (itf m (a+b) x)=fx m (itf m b (itf m a x))
  rw [lB m a x b]
theorem sI (m:Nat) (h:Int): ∀ s,(lp m h (13+s)).1=itf m s (lp m h 13).1
 | 0=>rfl
 | s+1=>by
  show((lp m h (13+s)).1 * 5+1+(lp m h (13+s)).2 / 32) % (m+1)=_
  have e:(lp m h (13+s)).2=0:=by
   rw [yZ]
   refine Nat.div_eq_of_lt (bf (aG1 h) ?_)
   rw [Nat.pow_add]
   have:1<=32 ^ s:=Nat.pow_pos (by decide)
   have e:(2:Nat) ^ 64<=32 ^ 13:=by decide
   calc 2 ^ 64<=32 ^ 13 * 1:=by omega
    _<=32 ^ 13 * 32 ^ s:=Nat.mul_le_mul_left _ this
  rw [e,sI m h s]
  rfl
theorem aG2 (m:Nat) (h:Int) (r:Nat):(lp m h r).1<m+1:=by
 cases r with
 | zero=>exact Nat.mod_lt _ (Nat.succ_pos _)
 | succ r=>exact Nat.mod_lt _ (Nat.succ_pos _)
def Cyc (m:Nat):Prop:=(∀ j,j<=m-> ∃ s,s<=m/\itf m s 0=j)/\itf m (m+1) 0=0
theorem Cyc.go {m:Nat} (c:Cyc m) {i j:Nat} (hi:i<=m) (hj:j<=m): ∃ s,s<=m/\itf m s i=j:=by
 obtain⟨a,ha,ea⟩:=c.1 i hi
 obtain⟨b,hb,eb⟩:=c.1 j hj
 by_cases h:a<=b
 ·refine⟨b - a,by omega, ?_⟩
  rw [<-ea, <-lB,show a+(b - a)=b by omega,eb]
 ·refine⟨(m+1 - a)+b,by omega, ?_⟩
  have e1:itf m (m+1 - a) i=0:=by rw [<-ea, <-lB,show a+(m+1 - a)=m+1 by omega];exact c.2
  rw [lB,e1,eb]
noncomputable def orb (m:Nat):Nat->Nat->List Nat
 | 0,_=>[]
 | n+1,x=>x::orb m n (fx m x)
theorem y0 (m:Nat) {j:Nat}: ∀ (n x:Nat),j∈orb m n x-> ∃ s,s<n/\itf m s x=j
 | 0,_,h=>by cases h
 | n+1,x,h=>by
  rcases aq.mp h with h | h
  ·exact⟨0,by omega,h.symm⟩
  ·obtain⟨s,h1,h2⟩:=y0 m n (fx m x) h
   refine⟨1+s,by omega, ?_⟩
   rw [lB];exact h2
theorem Cyc.of {m:Nat} (h:((List.range (m+1)).all fun j=>(orb m (m+1) 0).contains j)=true) (h2:itf m (m+1) 0=0):Cyc m:=
 ⟨fun j hj=>by
  have:=zAd h j (zPd (by omega))
  obtain⟨s,h1,e⟩:=y0 m _ _ (List.contains_iff_mem.mp this)
  exact⟨s,by omega,e⟩,h2⟩
theorem aPy:Cyc 7:= .of (by kernel_rfl) (by kernel_rfl)
theorem aNr:Cyc 31:= .of (by kernel_rfl) (by kernel_rfl)
theorem aK5:Cyc 127:= .of (by kernel_rfl) (by kernel_rfl)
theorem aK6 {m:Nat} (c:Cyc m) (h:Int) {j:Nat} (hj:j<=m): ∃ k,k<10 * SetTable.turns m/\(pr m h k).j=j:=by
 have hl:=aG2 m h 13
 obtain⟨s,h1,h2⟩:=c.go (i:=(lp m h 13).1) (by omega) hj
 obtain⟨k,k1,k2⟩:=aK4 m h (13+s)
 refine⟨k,by unfold SetTable.turns;omega, ?_⟩
 rw [k2]
 show(lp m h (13+s)).1=j
 rw [sI,h2]
theorem aG3 {m mv:Nat} {led:Bool} {ps:List Nat} (hr:ps.Pairwise (· < ·)) {i:Nat} (hi:i<ps.length):(tbl m mv led ps).slot ps[i]= .live i:=by
 have e:SetTable.below ps.toArray ps[i]=i:=by
  obtain⟨a,b,c⟩:=j9 hr ps[i]
  have h1: ¬ SetTable.below ps.toArray ps[i]<i:=fun h=>by
   have:=c (SetTable.below ps.toArray ps[i]) (by omega) (aj _)
   have:=List.pairwise_iff_getElem.mp hr _ i (by omega) hi h
   omega
  have h2: ¬ i<SetTable.below ps.toArray ps[i]:=fun h=>by
   have:=b i hi h;omega
  omega
 unfold SetTable.slot
 dsimp only [tbl]
 rw [e]
 simp [hi]
theorem aCe {m mv:Nat} {led:Bool} {ps:List Nat} {j:Nat} (hj:j∉ps):(tbl m mv led ps).slot j= .empty:=by
 unfold SetTable.slot
 have e1:((tbl m mv led ps).place[SetTable.below (tbl m mv led ps).place j]? ==some j)=false:=by
  cases q:(tbl m mv led ps).place[SetTable.below (tbl m mv led ps).place j]? with
  | none=>rfl
  | some x=>
   have:x∈ps:=by
    have:=Array.mem_of_getElem? q
    simpa [tbl] using this
   have:x≠j:=fun e=>hj (e▸this)
   simpa using this
 dsimp only
 rw [e1]
 rfl
theorem kA {P:Nat->Prop}: ∀ (d k K:Nat),K - k=d->k<=K->P K-> ∃ a,k<=a/\a<=K/\P a/\ ∀ b,k<=b->b<a-> ¬ P b
 | 0,k,K,hd,hk,h=>by
  have:k=K:=by omega
  subst this
  exact⟨k,aj _,aj _,h,fun b h1 h2=>by omega⟩
 | d+1,k,K,hd,hk,h=>by
  by_cases z:P k
  ·exact⟨k,aj _,hk,z,fun b h1 h2=>by omega⟩
  ·obtain⟨a,h1,h2,h3,h4⟩:=kA d (k+1) K (by omega) (by omega) h
   refine⟨a,by omega,h2,h3,fun b b1 b2=> ?_⟩
   by_cases e:b=k
   ·subst e;exact z
   ·exact h4 b (by omega) b2
theorem aG4 {m mv:Nat} {led:Bool} {ps:List Nat} {hashAt:Nat->Int} {h:Int}: ∀ (d k a fuel:Nat),a - k=d->k<=a->a<k+fuel->(∀ b,k<=b->b<a-> ∃ i,(tbl m mv led ps).slot (pr m h b).j= .live i/\hashAt i≠h)->
  ∃ f,SetTable.probe.go (tbl m mv led ps) hashAt h fuel (pr m h k)=SetTable.probe.go (tbl m mv led ps) hashAt h (f+1) (pr m h a)
 | 0,k,a,fuel,hd,hk,hf,_=>by
  have:k=a:=by omega
  subst this
  exact⟨fuel - 1,by rw [show fuel - 1+1=fuel by omega]⟩
 | d+1,k,a,fuel,hd,hk,hf,H=>by
  obtain⟨fu,rfl⟩: ∃ fu,fuel=fu+1:=⟨fuel - 1,by omega⟩
  obtain⟨f,e⟩:=aG4 (m:=m) (mv:=mv) (led:=led) (ps:=ps) (hashAt:=hashAt) (h:=h) d (k+1) a fu (by omega) (by omega) (by omega) fun b h1 h2=>H b (by omega) h2
  refine⟨f, ?_⟩
  rw [<-e]
  obtain⟨i,h1,h2⟩:=H k (aj _) (by omega)
  rw [SetTable.probe.go,h1]
  dsimp only
  rw [if_neg (by simpa using h2)]
  rfl
theorem aK7 {m mv:Nat} {led:Bool} {ps:List Nat} {hashAt:Nat->Int} {h:Int} {k a fuel:Nat} (hk:k<=a) (hf:a<k+fuel) (H: ∀ b,k<=b->b<a-> ∃ i,(tbl m mv led ps).slot (pr m h b).j= .live i/\hashAt i≠h) (he:(tbl m mv led ps).slot (pr m h a).j= .empty):
  SetTable.probe.go (tbl m mv led ps) hashAt h fuel (pr m h k)=some (.empty (pr m h a).j none):=by
 obtain⟨f,e⟩:=aG4 (led:=led) (mv:=mv) _ k a fuel rfl hk hf H
 rw [e,SetTable.probe.go,he]
 dsimp only
 rw [aEg]
theorem aK8 {m mv:Nat} {led:Bool} {ps:List Nat} {hashAt:Nat->Int} {h:Int} {k a fuel i:Nat} (hk:k<=a) (hf:a<k+fuel) (H: ∀ b,k<=b->b<a-> ∃ i,(tbl m mv led ps).slot (pr m h b).j= .live i/\hashAt i≠h) (he:(tbl m mv led ps).slot (pr m h a).j= .live i) (hi:hashAt i=h):
  SetTable.probe.go (tbl m mv led ps) hashAt h fuel (pr m h k)=some (.candidate (pr m h a).j i (pr m h (a+1))):=by
 obtain⟨f,e⟩:=aG4 (led:=led) (mv:=mv) _ k a fuel rfl hk hf H
 rw [e,SetTable.probe.go,he]
 dsimp only
 rw [if_pos (by simpa using hi)]
 rfl
def Rch (m:Nat) (h:Int) (ps:List Nat) (p:Nat):Prop:= ∃ k,k<10 * SetTable.turns m/\(pr m h k).j=p/\ ∀ b,b<k->(pr m h b).j∈ps
theorem Rch.mono {m:Nat} {h:Int} {ps qs:List Nat} {p:Nat} (r:Rch m h ps p) (s: ∀ x∈ps,x∈qs):Rch m h qs p:=by
 obtain⟨k,h1,h2,h3⟩:=r
 exact⟨k,h1,h2,fun b hb=>s _ (h3 b hb)⟩
theorem gH: ∀ {l q:List Nat},l.Nodup->(∀ x∈l,x∈q)->l.length<=q.length
 | [],_,_,_=>bq _
 | a::l,q,hn,hs=>by
  have h1:=List.nodup_cons.mp hn
  have ma:=hs a (.head _)
  have:=gH (l:=l) (q:=q.erase a) h1.2 fun x hx=>(List.mem_erase_of_ne (fun e:x=a=>h1.1 (e▸hx))).mpr (hs x (.tail _ hx))
  rw [List.length_erase_of_mem ma] at this
  have:=List.length_pos_of_mem ma
  simp only [bo]
  omega
theorem y6 {m:Nat} (c:Cyc m) (h:Int) {ps:List Nat} (hl:ps.length<=m): ∃ k,k<10 * SetTable.turns m/\(pr m h k).j∉ps/\ ∀ b,b<k->(pr m h b).j∈ps:=by
 have ex: ∃ j,j<=m/\j∉ps:=by
  refine Classical.byContradiction fun hn=> ?_
  have hs: ∀ j∈List.range (m+1),j∈ps:=fun j hj=>by
   refine Classical.byContradiction fun z=>hn ⟨j, ?_,z⟩
   have:=zRd hj;omega
  have:=gH (List.nodup_range (n:=m+1)) hs
  rw [List.length_range] at this
  omega
 obtain⟨j,hj,hn⟩:=ex
 obtain⟨K,k1,k2⟩:=aK6 c h hj
 obtain⟨a,_,a2,a3,a4⟩:=kA (P:=fun b=>(pr m h b).j∉ps) _ 0 K rfl (bq _) (by rw [k2];exact hn)
 exact⟨a,by omega,a3,fun b hb=>Classical.byContradiction (a4 b (bq _) hb)⟩
theorem aCf {m:Nat} (h:Int) (k:Nat):(pr m h k).j<=m:=by
 suffices q:(pr m h k).j+(pr m h k).more<=m by omega
 have re: ∀ i,i<=m->i+(SetTable.runEnd m i - i)<=m:=fun i hi=>by
  unfold SetTable.runEnd;split<;>omega
 induction k with
 | zero=>
  have:=aG2 m h 0
  exact re _ (by show(lp m h 0).1<=m;omega)
 | succ k ih=>
  show(adv m (pr m h k)).j+(adv m (pr m h k)).more<=m
  unfold adv SetTable.advance
  split
  ·dsimp only;omega
  ·have:(SetTable.leap m (pr m h k).i (pr m h k).perturb).1<m+1:=Nat.mod_lt _ (Nat.succ_pos _)
   exact re _ (by show(SetTable.leap m (pr m h k).i (pr m h k).perturb).1<=m;omega)
def Oc (owner:Array (Option Nat)) (j:Nat):Prop:=(owner.getD j (some 0)).isNone=false
theorem aG5 {m:Nat} {h:Int} {owner:Array (Option Nat)} {R:Nat} (hR:R<SetTable.turns m) (he: ¬ Oc owner (lp m h R).1): ∀ (d r k:Nat),R - r=d->r<=R->pr m h k={ j:=(lp m h r).1,more:=SetTable.runEnd m (lp m h r).1 - (lp m h r).1,i:=(lp m h r).1,perturb:=(lp m h r).2,dummy:=none }->k<=10 * r->(∀ b,b<k->Oc owner (pr m h b).j)->
  ∃ K,K<10 * SetTable.turns m/\SetTable.layClean.free m owner (SetTable.turns m - r) (lp m h r).1 (lp m h r).2=some (pr m h K).j/\ ¬ Oc owner (pr m h K).j/\ ∀ b,b<K->Oc owner (pr m h b).j:=by
 intro d
 induction d with
 | zero=>
  intro r k hd hr hp hk hb
  have:r=R:=by omega
  subst this
  have h0:(pr m h k).j=(lp m h r).1:=by rw [hp]
  refine⟨k,by omega, ?_,by rw [h0];exact he,hb⟩
  obtain⟨fu,e⟩: ∃ fu,SetTable.turns m - r=fu+1:=⟨SetTable.turns m - r - 1,by omega⟩
  rw [e,SetTable.layClean.free]
  have hf:(List.range (SetTable.runEnd m (lp m h r).1+1 - (lp m h r).1)).find? (fun k=>(owner.getD ((lp m h r).1+k) (some 0)).isNone)=some 0:=by
   rw [List.find?_range_eq_some]
   refine⟨?_,zPd ?_,fun j hj=>by omega⟩
   ·unfold Oc at he;simpa using he
   ·unfold SetTable.runEnd;split<;>omega
  rw [hf,h0]
  rfl
 | succ d ih=>
  intro r k hd hr hp hk hb
  have hm:(pr m h k).more=SetTable.runEnd m (lp m h r).1 - (lp m h r).1:=by rw [hp]
  have hj:(pr m h k).j=(lp m h r).1:=by rw [hp]
  have h9:(pr m h k).more<=9:=by rw [hm];unfold SetTable.runEnd;split<;>omega
  have hge:(lp m h r).1<=SetTable.runEnd m (lp m h r).1:=by unfold SetTable.runEnd;split<;>omega
  have run: ∀ a,a<=(pr m h k).more->(pr m h (k+a)).j=(lp m h r).1+a:=fun a ha=>by rw [uE m h k a ha, <-hj]
  obtain⟨fu,e⟩: ∃ fu,SetTable.turns m - r=fu+1:=⟨SetTable.turns m - r - 1,by omega⟩
  rw [e,SetTable.layClean.free]
  cases hf:(List.range (SetTable.runEnd m (lp m h r).1+1 - (lp m h r).1)).find? (fun k=>(owner.getD ((lp m h r).1+k) (some 0)).isNone) with
  | some a=>
   rw [List.find?_range_eq_some] at hf
   obtain⟨f1,f2,f3⟩:=hf
   have f2:=zRd f2
   have hra:=run a (by omega)
   refine⟨k+a,by omega,by rw [hra], ?_,fun b hb'=> ?_⟩
   ·rw [hra];unfold Oc;rw [f1];decide
   ·by_cases z:b<k
    ·exact hb b z
    ·obtain⟨c,rfl⟩: ∃ c,b=k+c:=⟨b - k,by omega⟩
     rw [run c (by omega)]
     have:=f3 c (by omega)
     unfold Oc;simpa using this
  | none=>
   dsimp only
   rw [List.find?_range_eq_none] at hf
   have hall: ∀ a,a<=(pr m h k).more->Oc owner (pr m h (k+a)).j:=fun a ha=>by
    rw [run a ha]
    have:=hf a (by omega)
    unfold Oc;simpa using this
   have:=ih (r+1) (k+(pr m h k).more+1) (by omega) (by omega) ?_ (by omega) (fun b hb'=> ?_)
   ·rw [show SetTable.turns m - (r+1)=fu by omega] at this
    exact this
   ·show adv m (pr m h (k+(pr m h k).more))=_
    rw [uE m h k _ (aj _)]
    unfold adv SetTable.advance
    rw [if_neg (by dsimp only;omega),hp]
    rfl
   ·by_cases z:b<k
    ·exact hb b z
    ·obtain⟨c,rfl⟩: ∃ c,b=k+c:=⟨b - k,by omega⟩
     exact hall c (by omega)
structure LayI (m:Nat) (hs:List Int) (owner:Array (Option Nat)) (pl:List Nat):Prop where
 sz:owner.size=m+1
 len:pl.length=hs.length
 nd:pl.Nodup
 le: ∀ p∈pl,p<=m
 own: ∀ j,j<=m->owner.getD j none=pl.findIdx? (· ==j)
 rch: ∀ (k:Nat) (h:Int) (p:Nat),hs[k]? =some h->pl[k]? =some p->Rch m h pl p
theorem iR {pl:List Nat} {j:Nat}:pl.findIdx? (· ==j)=none↔j∉pl:=by
 rw [List.findIdx?_eq_none_iff]
 constructor
 ·intro h hm
  have:=h j hm
  simp at this
 ·intro h x hx
  have:x≠j:=fun e=>h (e▸hx)
  simpa using this
theorem LayI.oc {m:Nat} {hs:List Int} {owner:Array (Option Nat)} {pl:List Nat} (L:LayI m hs owner pl) {j:Nat} (hj:j<=m):Oc owner j↔j∈pl:=by
 have e:owner.getD j (some 0)=owner.getD j none:=by
  have:j<owner.size:=by rw [L.sz];omega
  simp [Array.getD,this]
 unfold Oc
 rw [e,L.own j hj]
 constructor
 ·intro h
  refine Classical.byContradiction fun z=> ?_
  rw [iR.mpr z] at h
  cases h
 ·intro h
  cases q:pl.findIdx? (· ==j) with
  | none=>exact absurd h (iR.mp q)
  | some _=>rfl
theorem LayI.step {m:Nat} (c:Cyc m) {hs:List Int} {owner:Array (Option Nat)} {pl:List Nat} (L:LayI m hs owner pl) (hl:hs.length<=m) (h:Int):
  ∃ j,SetTable.layClean.free m owner (SetTable.turns m) (SetTable.bits h % (m+1)) (SetTable.bits h)=some j/\LayI m (hs++[h]) (owner.setIfInBounds j (some hs.length)) (pl++[j]):=by
 -- an empty leap
 obtain⟨k0,_,n0,_⟩:=y6 c h (ps:=pl) (by rw [L.len];exact hl)
 have hq:=aCf (m:=m) h k0
 have l13:=aG2 m h 13
 obtain⟨s,s1,s2⟩:=c.go (i:=(lp m h 13).1) (by omega) hq
 have he: ¬ Oc owner (lp m h (13+s)).1:=by
  rw [sI,s2,L.oc hq];exact n0
 obtain⟨K,k1,k2,k3,k4⟩:=aG5 (owner:=owner) (R:=13+s) (by unfold SetTable.turns;omega) he _ 0 0 rfl (by omega) rfl (aj _) (fun b hb=>by omega)
 have kj:=aCf (m:=m) h K
 have nj:(pr m h K).j∉pl:=fun z=>k3 ((L.oc kj).mpr z)
 refine⟨(pr m h K).j,k2,by simp [L.sz],by simp [L.len], ?_,fun p hp=> ?_,fun j hj=> ?_,fun k h' p e1 e2=> ?_⟩
 ·rw [List.nodup_append]
  refine⟨L.nd,by simp,fun a ha b hb=> ?_⟩
  have:b=(pr m h K).j:=by simpa using hb
  subst this
  exact fun e=>nj (e▸ha)
 ·rcases List.mem_append.mp hp with hp | hp
  ·exact L.le p hp
  ·have:p=(pr m h K).j:=by simpa using hp
   subst this;exact kj
 ·have hjs:j<owner.size:=by rw [L.sz];omega
  rw [List.findIdx?_append]
  by_cases z:(pr m h K).j=j
  ·subst z
   rw [iR.mpr nj]
   simp [Array.getD,hjs,L.len]
  ·have h1:(owner.setIfInBounds (pr m h K).j (some hs.length)).getD j none=owner.getD j none:=by
    simp [Array.getD,hjs,Array.getElem_setIfInBounds,z]
   rw [h1,L.own j hj]
   have h2:List.findIdx? (· ==j) [(pr m h K).j]=none:=by
    rw [iR];simpa using fun e=>z e.symm
   rw [h2]
   simp
 ·have mono: ∀ x∈pl,x∈pl++[(pr m h K).j]:=fun x hx=>List.mem_append.mpr (.inl hx)
  by_cases z:k<hs.length
  ·rw [bt z] at e1
   rw [bt (by rw [L.len];exact z)] at e2
   exact(L.rch k h' p e1 e2).mono mono
  ·have hk:k<(hs++[h]).length:=(aw.mp e1).1
   have:k=hs.length:=by simp at hk;omega
   subst this
   rw [bj (aj _)] at e1
   rw [bj (by rw [L.len];exact aj _),L.len] at e2
   simp at e1 e2
   subst e1 e2
   exact⟨K,k1,rfl,fun b hb=>mono _ ((L.oc (aCf h b)).mp (k4 b hb))⟩
noncomputable def aK9 (m:Nat) (acc:Option (Array (Option Nat)×Nat)) (h:Int):Option (Array (Option Nat)×Nat):=do
 let (owner,k)<-acc
 let j<-SetTable.layClean.free m owner (SetTable.turns m) (SetTable.bits h % (m+1)) (SetTable.bits h)
 pure (owner.setIfInBounds j (some k),k+1)
theorem y8 {m:Nat} (c:Cyc m): ∀ (d7 hs:List Int) (owner:Array (Option Nat)) (pl:List Nat),LayI m hs owner pl->hs.length+d7.length<=m+1->
  ∃ owner' pl',d7.foldl (aK9 m) (some (owner,hs.length))=some (owner',(hs++d7).length)/\LayI m (hs++d7) owner' pl'
 | [],hs,owner,pl,L,_=>⟨owner,pl,by simp,by simpa using L⟩
 | h::d7,hs,owner,pl,L,hl=>by
  simp only [bo] at hl
  obtain⟨j,e,L'⟩:=L.step c (by omega) h
  obtain⟨o',p',e',L''⟩:=y8 c d7 (hs++[h]) _ _ L' (by simp;omega)
  refine⟨o',p', ?_,by simpa using L''⟩
  rw [List.foldl_cons]
  have:aK9 m (some (owner,hs.length)) h=some (owner.setIfInBounds j (some hs.length),(hs++[h]).length):=by
   unfold aK9
   show(SetTable.layClean.free m owner (SetTable.turns m) (SetTable.bits h % (m+1)) (SetTable.bits h)).bind _=_
   rw [e]
   simp
  rw [this,e']
  simp
theorem LayI.new (m:Nat):LayI m [] (Array.replicate (m+1) none) []:=by
 refine⟨by simp,rfl,List.nodup_nil,nofun,fun j hj=> ?_,fun k h p e=>by simp at e⟩
 simp [Array.getD]
theorem sJ {m:Nat} (c:Cyc m) (hs:List Int) (hl:hs.length<=m+1): ∃ owner pl,SetTable.layClean m hs.toArray=some owner/\LayI m hs owner pl:=by
 obtain⟨o,p,e,L⟩:=y8 c hs [] _ _ (LayI.new m) (by simpa using hl)
 refine⟨o,p, ?_,by simpa using L⟩
 unfold SetTable.layClean
 show(hs.toArray.foldl (aK9 m) (some (Array.replicate (m+1) none,0))).map (·.1)=some o
 rw [List.foldl_toArray']
 ·have e':hs.foldl (aK9 m) (some (Array.replicate (m+1) none,0))=some (o,hs.length):=by simpa using e
  rw [e'];rfl
 ·simp
structure TI (m:Nat) (L:List (Nat×Int×Value)):Prop where
 up:(L.map (·.1)).Pairwise (· < ·)
 le: ∀ x∈L,x.1<=m
 rch: ∀ x∈L,Rch m x.2.1 (L.map (·.1)) x.1
noncomputable def eN (m:Nat) (pl:List Nat) (es:List (Int×Value)):List (Nat×Int×Value):=(List.range (m+1)).filterMap fun j=>(pl.findIdx? (· ==j)).bind fun k=>es[k]?.map fun e=>(j,e)
theorem aNs: ∀ (m:Nat) {f:Nat->Option (Nat×Int×Value)} (hf: ∀ j x,f j=some x->x.1=j) (l:List Nat),l.Pairwise (· < ·)->((l.filterMap f).map (·.1)).Pairwise (· < ·):=by
 intro m f hf l h
 rw [List.map_filterMap]
 refine List.Pairwise.filterMap _ (fun a a' haa b hb b' hb'=> ?_) h
 obtain⟨x,e1,e2⟩:=zMd hb
 obtain⟨y,e3,e4⟩:=zMd hb'
 rw [<-e2, <-e4,hf _ _ e1,hf _ _ e3]
 exact haa
theorem uF {m:Nat} {pl:List Nat} {es:List (Int×Value)} (hn:pl.Nodup) (hle: ∀ p∈pl,p<=m) (hl:pl.length=es.length) (x:Nat×Int×Value):x∈eN m pl es↔x∈pl.zip es:=by
 unfold eN
 rw [List.mem_filterMap]
 constructor
 ·rintro⟨j,_,h⟩
  obtain⟨k,e1,e2⟩:=zBd h
  obtain⟨e,e3,rfl⟩:=zMd e2
  rw [List.findIdx?_eq_some_iff_getElem] at e1
  obtain⟨h1,h2,_⟩:=e1
  have:pl[k]=j:=by simpa using h2
  obtain⟨h3,h4⟩:=aw.mp e3
  rw [List.mem_iff_getElem]
  refine⟨k,by simp;omega, ?_⟩
  rw [List.getElem_zip,this,h4]
 ·intro h
  obtain⟨k,hk,rfl⟩:=List.getElem_of_mem h
  rw [List.getElem_zip]
  have hk1:k<pl.length:=by simp at hk;omega
  have hk2:k<es.length:=by simp at hk;omega
  refine⟨pl[k],zPd (Nat.lt_succ_of_le (hle _ (List.getElem_mem _))), ?_⟩
  have e1:pl.findIdx? (· ==pl[k])=some k:=by
   rw [List.findIdx?_eq_some_iff_getElem]
   refine⟨hk1,by simp,fun j hj=> ?_⟩
   have:pl[j]≠pl[k]:=fun e=>by
    have:=(List.getElem_inj hn).mp e
    omega
   simpa using this
  rw [e1]
  simp [hk2]
theorem aG6 {m:Nat} {hs:List Int} {owner:Array (Option Nat)} {pl:List Nat} (L:LayI m hs owner pl) {es:List (Int×Value)} (he:es.map (·.1)=hs):TI m (eN m pl es)/\((eN m pl es).map (·.2)).Perm es/\((eN m pl es).map (·.1)).Perm pl:=by
 have hl:pl.length=es.length:=by rw [L.len, <-he,am]
 have up:((eN m pl es).map (·.1)).Pairwise (· < ·):=aNs m (fun j x h=>by
  obtain⟨k,e1,e2⟩:=zBd h
  obtain⟨e,e3,rfl⟩:=zMd e2
  rfl) _ List.pairwise_lt_range
 have z1:(pl.zip es).map (·.1)=pl:=List.map_fst_zip (by omega)
 have z2:(pl.zip es).map (·.2)=es:=List.map_snd_zip (by omega)
 have nd1:(eN m pl es).Nodup:=by
  have:((eN m pl es).map (·.1)).Nodup:=up.imp fun h e=>by omega
  exact List.Pairwise.of_map (·.1) (fun a b h e=>h (congrArg _ e)) this
 have nd2:(pl.zip es).Nodup:=by
  have:((pl.zip es).map (·.1)).Nodup:=by rw [z1];exact L.nd
  exact List.Pairwise.of_map (·.1) (fun a b h e=>h (congrArg _ e)) this
 have pe:(eN m pl es).Perm (pl.zip es):=(List.perm_ext_iff_of_nodup nd1 nd2).mpr fun x=>uF L.nd L.le hl x
 have p1:((eN m pl es).map (·.1)).Perm pl:=by have:=pe.map (·.1);rwa [z1] at this
 refine⟨⟨up,fun x hx=> ?_,fun x hx=> ?_⟩,by have:=pe.map (·.2);rwa [z2] at this,p1⟩
 ·exact L.le _ (p1.mem_iff.mp (ao.mpr ⟨x,hx,rfl⟩))
 ·have hx':=(uF L.nd L.le hl x).mp hx
  obtain⟨k,hk,rfl⟩:=List.getElem_of_mem hx'
  rw [List.getElem_zip]
  have hk1:k<pl.length:=by simp at hk;omega
  have hk2:k<es.length:=by simp at hk;omega
  refine(L.rch k es[k].1 pl[k] ?_ (ba hk1)).mono fun y hy=>p1.mem_iff.mpr hy
  rw [<-he];simp [hk2]
theorem aG7 {m f mv:Nat} {led:Bool} (c:Cyc m) {es:List (Int×Value)} (hl:es.length<=m+1): ∃ (L:List (Nat×Int×Value)) (order:Array Nat),SetTable.laid m 0 mv led true (es.map (·.1)).toArray=some (tbl m mv led (L.map (·.1)),order)/\order.filterMap (es.toArray[·]?)=(L.map (·.2)).toArray/\TI m L/\(L.map (·.2)).Perm es:=by
 obtain⟨owner,pl,e,LI⟩:=sJ c (es.map (·.1)) (by simpa using hl)
 obtain⟨t1,t2,t3⟩:=aG6 LI rfl
 have hl':pl.length=es.length:=by rw [LI.len,am]
 have live: ∀ j∈List.range (m+1),(owner.getD j none).map (j, ·)=(pl.findIdx? (· ==j)).map (j, ·):=fun j hj=>by
  rw [LI.own j (by have:=zRd hj;omega)]
 refine⟨eN m pl es,(((List.range (m+1)).filterMap fun j=>(pl.findIdx? (· ==j)).map (j, ·)).map (·.2)).toArray, ?_, ?_,t1,t2⟩
 ·unfold SetTable.laid
  rw [e]
  show some (_,_)=_
  have e1:((List.range (m+1)).filterMap fun j=>(owner.getD j none).map (j, ·))=(List.range (m+1)).filterMap fun j=>(pl.findIdx? (· ==j)).map (j, ·):=by
   have gen: ∀ l:List Nat,(∀ j∈l,(owner.getD j none).map (j, ·)=(pl.findIdx? (· ==j)).map (j, ·))->(l.filterMap fun j=>(owner.getD j none).map (j, ·))=l.filterMap fun j=>(pl.findIdx? (· ==j)).map (j, ·):=fun l=>by
    induction l with
    | nil=>intro _;rfl
    | cons a l ih=>
     intro h
     rw [List.filterMap_cons,List.filterMap_cons,h a (.head _),ih fun j hj=>h j (.tail _ hj)]
   exact gen _ live
  rw [e1]
  have e2:((List.range (m+1)).filterMap fun j=>(pl.findIdx? (· ==j)).map (j, ·)).map (·.1)=(eN m pl es).map (·.1):=by
   unfold eN
   rw [List.map_filterMap,List.map_filterMap]
   congr 1
   funext j
   cases q:pl.findIdx? (· ==j) with
   | none=>rfl
   | some k=>
    rw [List.findIdx?_eq_some_iff_getElem] at q
    obtain⟨h1,_⟩:=q
    have:k<es.length:=by omega
    simp [this]
  rw [e2]
  rfl
 ·apply Array.toList_inj.mp
  rw [Array.toList_filterMap]
  unfold eN
  rw [List.filterMap_map,List.map_filterMap,List.filterMap_filterMap]
  congr 1
  funext j
  cases q:pl.findIdx? (· ==j) with
  | none=>rfl
  | some k=>cases q2:es[k]? <;>simp [q2]
mutual
noncomputable def hk:PyData->Bool
 | .none=>true
 | .int _=>true
 | .tuple xs=>hks xs
 | _=>false
noncomputable def hks:List PyData->Bool
 | []=>true
 | x::xs=>hk x&&hks xs
end
mutual
noncomputable def hsh:PyData->Int
 | .none=>0xFCA86420
 | .int i=>hashInt i
 | .tuple xs=>reduceHash (Builtin.Tuple.tupleHashOf (aAx xs))
 | _=>0
noncomputable def aAx:List PyData->List Int
 | []=>[]
 | x::xs=>hsh x::aAx xs
end
mutual
theorem y9: ∀ d:PyData,hk d=true->d.canLay0=true
 | .none,_=>rfl
 | .int _,_=>rfl
 | .tuple xs,h=>by
  rw [hk] at h
  rw [PyData.canLay0]
  exact zA xs h
 | .bool _,h=>by simp [hk] at h
 | .str _,h=>by simp [hk] at h
 | .list _,h=>by simp [hk] at h
 | .dict _,h=>by simp [hk] at h
theorem zA: ∀ xs:List PyData,hks xs=true->PyData.canLayAll0 xs=true
 | [],_=>rfl
 | x::xs,h=>by
  rw [hks,au] at h
  rw [PyData.canLayAll0,y9 x h.1,zA xs h.2]
  rfl
end
mutual
theorem zB: ∀ d1 d2:PyData,hk d1=true->hk d2=true->PyData.eqv d1 d2=true->d1=d2
 | .none,d2,_,h2,e=>by cases d2<;>simp [hk] at h2<;>simp [PyData.eqv] at e ⊢
 | .int i,d2,_,h2,e=>by cases d2<;>simp [hk] at h2<;>simp [PyData.eqv] at e ⊢<;>exact e
 | .tuple xs,d2,h1,h2,e=>by
  cases d2<;>simp [hk] at h2<;>simp [PyData.eqv] at e
  rename_i ys
  rw [uG xs ys (by simpa [hk] using h1) h2 e]
 | .bool _,_,h,_,_=>by simp [hk] at h
 | .str _,_,h,_,_=>by simp [hk] at h
 | .list _,_,h,_,_=>by simp [hk] at h
 | .dict _,_,h,_,_=>by simp [hk] at h
theorem uG: ∀ xs ys:List PyData,hks xs=true->hks ys=true->PyData.eqvAll xs ys=true->xs=ys
 | [],[],_,_,_=>rfl
 | [],_::_,_,_,e=>by simp [PyData.eqvAll] at e
 | _::_,[],_,_,e=>by simp [PyData.eqvAll] at e
 | x::xs,y::ys,h1,h2,e=>by
  rw [hks,au] at h1 h2
  rw [PyData.eqvAll,au] at e
  rw [zB x y h1.1 h2.1 e.1,uG xs ys h1.2 h2.2 e.2]
end
section
variable {prog:Program} {w:World}
theorem qF {A:Around} {s:Shared} {Q:Int->Shared->Prop} {E:Value->Shared->Prop} (h:Q 0xFCA86420 { s with toks:=s.toks+1 }):wpAny (model prog w) A (pyHash .none) Q E s:=by
 have hT:s.TypeIs .none "NoneType":=rfl
 unfold pyHash pyHashByItsType
 refine aa (wpAny_cRoomFor_or (.inl rfl) ?_)
 refine aa (wpAny_specialOf hT F.slot_NoneType_hash.lookup ?_)
 show wpAny _ _ (if(some (Value.builtin "NoneType.__hash__")==some Value.none)=true then _ else _) Q E s
 rw [if_neg (by rw [beq_builtin_none];exact bd)]
 refine aa (wpAny_specialOf hT F.slot_NoneType_hash.lookup ?_)
 show wpAny _ _ (callSpecialIfBoundUnlessNone? .none "__hash__" _ >>= _) Q E s
 refine aa (wpAny_callSpecialIfBoundUnlessNone?_slot hT F.slot_NoneType_hash (wpAny_call_entry F.slot_NoneType_hash hT F.entry_NoneType_hash ?_ (F.args_NoneType_hash_1 _)))
 show wpAny _ _ (retInt 0xFCA86420) _ _ s
 refine wpAny_ret_mkInt ?_
 exact ae h
mutual
noncomputable def dr:PyData->Nat
 | .tuple xs=>drs xs+1
 | _=>1
noncomputable def drs:List PyData->Nat
 | []=>0
 | x::xs=>dr x+drs xs
end
theorem aG8: ∀ (n:Nat) (d:PyData) (v:Value) (as:List Addr) (A:Around) (s:Shared) (Q:Int->Shared->Prop) (E:Value->Shared->Prop),hk d=true->d.depth<=n->Reads s.heap v d as->A.units+n<cLine->Q (hsh d) { s with toks:=s.toks+dr d }->wpAny (model prog w) A (pyHash v) Q E s:=by
 intro n
 induction n with
 | zero=>
  intro d v as A s Q E hd hn hr hu h
  cases hr with
  | none=>exact qF (by simpa [hsh,dr] using h)
  | int i t=>exact wpAny_pyHash_int (by simpa [hsh,dr] using h)
  | bool b=>cases hd
  | str x t=>cases hd
  | list=>cases hd
  | tuple=>simp [PyData.depth] at hn
  | dict=>cases hd
 | succ n ih=>
  intro d v as A s Q E hd hn hr hu h
  cases hr with
  | none=>exact qF (by simpa [hsh,dr] using h)
  | int i t=>exact wpAny_pyHash_int (by simpa [hsh,dr] using h)
  | bool b=>cases hd
  | str x t=>cases hd
  | list=>cases hd
  | dict=>cases hd
  | @tuple a o vs k xs as ho hc hdat hall=>
   have hT:s.TypeIs (.ref a) "tuple":=⟨o,ho,hc⟩
   have hd':hks xs=true:=by simpa [hk] using hd
   have hn':PyData.depthAll xs<=n:=by simp only [PyData.depth] at hn;omega
   unfold pyHash
   unfold pyHashByItsType
   refine aa (wpAny_cRoomFor_or (.inr (by omega)) ?_)
   refine aa (wpAny_specialOf hT F.slot_tuple_hash.lookup ?_)
   show wpAny _ _ (if(some (Value.builtin "tuple.__hash__")==some Value.none)=true then _ else _) Q E s
   rw [if_neg (by rw [beq_builtin_none];exact bd)]
   refine aa (wpAny_specialOf hT F.slot_tuple_hash.lookup ?_)
   show wpAny _ _ (callSpecialIfBoundUnlessNone? (.ref a) "__hash__" _ >>= _) Q E s
   refine aa (wpAny_callSpecialIfBoundUnlessNone?_slot hT F.slot_tuple_hash (wpAny_call_entry F.slot_tuple_hash hT F.entry_tuple_hash ?_ (F.args_tuple_hash_1 _)))
   show wpAny _ _ (Builtin.Tuple.tupleItemsOf (.ref a) >>= _) _ _ s
   refine aa (wpAny_tupleItemsOf ho hdat ?_)
   refine aa ?_
   rw [<-Array.forIn_toList]
   refine wpAny_forIn_list _
    (fun d7 (b:Array Int) s'=> ∃ ds bs tk,ReadsAll s.heap d7 ds bs/\hks ds=true/\PyData.depthAll ds<=n/\aAx xs=b.toList++aAx ds/\s.toks+drs xs=tk+drs ds/\s'={ s with toks:=tk })
    _ ?_ ?_ _ _ ⟨xs,as,s.toks,hall,hd',hn',rfl,rfl,rfl⟩
   ·rintro x d7 b s' ⟨ds,bs,tk,hra,k1,k2,k3,k4,rfl⟩
    cases hra with
    | @cons _ _ d1 ds1 as1 bs1 r1 r2=>
     simp only [hks,au] at k1
     simp only [PyData.depthAll] at k2
     refine aa (ih d1 x as1 _ _ _ _ k1.1 (by omega) r1 (by have:=A.in1_units;omega) ?_)
     have k5:s.toks+drs xs=tk+dr d1+drs ds1:=by rw [k4];simp only [drs];omega
     first
      | exact ae ⟨ds1,bs1,_,r2,k1.2,by omega,by rw [k3];simp [aAx],k5,rfl⟩
      | exact aa (ae (ae ⟨ds1,bs1,_,r2,k1.2,by omega,by rw [k3];simp [aAx],k5,rfl⟩))
   ·rintro b s' ⟨ds,bs,tk,hra,k1,k2,k3,k4,rfl⟩
    cases hra
    simp only [aAx,List.append_nil] at k3
    have h':=h
    simp only [hsh,k3,dr,show s.toks+(drs xs+1)=tk+1 from by simp only [drs] at k4;omega] at h'
    show wpAny _ _ (retInt (Builtin.Tuple.tupleHashOf b.toList)) _ _ _
    refine wpAny_ret_mkInt ?_
    show wpAny _ _ (if(decide (-(2:Int) ^ 63<=Builtin.Tuple.tupleHashOf b.toList)&&decide (Builtin.Tuple.tupleHashOf b.toList<2 ^ 63))=true then _ else _) Q E _
    unfold reduceHash at h'
    by_cases hr:(decide (-(2:Int) ^ 63<=Builtin.Tuple.tupleHashOf b.toList)&&decide (Builtin.Tuple.tupleHashOf b.toList<2 ^ 63))=true
    ·rw [if_pos hr]
     rw [if_pos hr] at h'
     exact ae h'
    ·rw [if_neg hr]
     rw [if_neg hr] at h'
     exact aa (wpAny_rule (ae h'))
theorem aG9 (n:Nat) (d:PyData) (v:Value) (as:List Addr) (A:Around) (s:Shared) (Q:Int->Shared->Prop) (E:Value->Shared->Prop) (h1:hk d=true) (h2:d.depth<=n) (h3:Reads s.heap v d as) (h4:A.units+n<cLine) (h: ∀ tk,s.toks<=tk->Q (hsh d) { s with toks:=tk }):wpAny (model prog w) A (pyHash v) Q E s:=
 aG8 n d v as A s Q E h1 h2 h3 h4 (h _ (Nat.le_add_right _ _))
theorem uH: ∀ (n:Nat) (d:PyData) (v:Value) (as:List Addr) (A:Around) (s:Shared) (Q:Bool->Shared->Prop) (E:Value->Shared->Prop),hk d=true->d.depth<=n->Reads s.heap v d as->Q true s->wpAny (model prog w) A (eqIsQuiet n v) Q E s:=by
 intro n
 induction n with
 | zero=>
  intro d v as A s Q E hd hn hr h
  cases hr with
  | tuple=>simp [PyData.depth] at hn
  | none=>rw [eqIsQuiet_byValue _ rfl];exact ae h
  | int i t=>rw [eqIsQuiet_byValue _ rfl];exact ae h
  | bool b=>cases hd
  | str x t=>cases hd
  | list=>cases hd
  | dict=>cases hd
 | succ n ih=>
  intro d v as A s Q E hd hn hr h
  cases hr with
  | none=>rw [eqIsQuiet_byValue _ rfl];exact ae h
  | int i t=>rw [eqIsQuiet_byValue _ rfl];exact ae h
  | bool b=>cases hd
  | str x t=>cases hd
  | list=>cases hd
  | dict=>cases hd
  | @tuple a o vs k xs as ho hc hdat hall=>
   have hT:s.TypeIs (.ref a) "tuple":=⟨o,ho,hc⟩
   have hd':hks xs=true:=by simpa [hk] using hd
   have hn':PyData.depthAll xs<=n:=by simp only [PyData.depth] at hn;omega
   unfold eqIsQuiet
   refine aa (wpAny_specialOf hT F.slot_tuple_eq.lookup ?_)
   show wpAny _ _ (isInstance (.ref a) (.type "tuple") >>= _) _ _ s
   refine aa (wpAny_isInstance hT isSubtype_tuple_tuple ?_)
   simp only [Bool.not_true,ax,if_false]
   refine aa (wpAny_seqItems ho hdat ?_)
   refine aa ?_
   show wpAny _ _ (forIn vs _ _) _ _ s
   rw [<-Array.forIn_toList]
   refine wpAny_forIn_list _ (fun d7 r s'=>r.1=none/\s'=s/\ ∃ ds bs,ReadsAll s.heap d7 ds bs/\hks ds=true/\PyData.depthAll ds<=n) _ ?_ ?_ _ _ ⟨rfl,rfl,xs,as,hall,hd',hn'⟩
   ·rintro x d7 r s' ⟨hr,rfl,ds,bs,hra,k1,k2⟩
    cases hra with
    | @cons _ _ d1 ds1 as1 bs1 r1 r2=>
     simp only [hks,au] at k1
     simp only [PyData.depthAll] at k2
     refine aa (ih d1 x as1 _ _ _ _ k1.1 (by omega) r1 ?_)
     simp only [Bool.not_true,ax,if_false]
     exact ae ⟨rfl,rfl,ds1,bs1,r2,k1.2,by omega⟩
   ·rintro⟨r1,r2⟩ s' ⟨hr,rfl,_⟩
    simp only at hr
    subst hr
    exact ae h
theorem uI: ∀ (n:Nat) (d:PyData) (v:Value) (as:List Addr) (A:Around) (s:Shared) (Q:Bool->Shared->Prop) (E:Value->Shared->Prop),hk d=true->d.depth<=n->Reads s.heap v d as->Q false s->wpAny (model prog w) A (ofAClassStatement n v) Q E s:=by
 intro n
 induction n with
 | zero=>
  intro d v as A s Q E hd hn hr h
  cases hr with
  | tuple=>simp [PyData.depth] at hn
  | none=>exact ae h
  | int i t=>exact ae h
  | bool b=>cases hd
  | str x t=>cases hd
  | list=>cases hd
  | dict=>cases hd
 | succ n ih=>
  intro d v as A s Q E hd hn hr h
  cases hr with
  | none=>exact ae h
  | int i t=>exact ae h
  | bool b=>cases hd
  | str x t=>cases hd
  | list=>cases hd
  | dict=>cases hd
  | @tuple a o vs k xs as ho hc hdat hall=>
   have hT:s.TypeIs (.ref a) "tuple":=⟨o,ho,hc⟩
   have hd':hks xs=true:=by simpa [hk] using hd
   have hn':PyData.depthAll xs<=n:=by simp only [PyData.depth] at hn;omega
   unfold ofAClassStatement
   refine aa (wpAny_typeOf hT ?_)
   dsimp only
   rw [if_pos (by decide)]
   refine aa (ae ?_)
   simp only [Bool.not_true,ax,if_false]
   refine aa (wpAny_seqItems ho hdat ?_)
   dsimp only
   refine aa ?_
   show wpAny _ _ (forIn vs _ _) _ _ s
   rw [<-Array.forIn_toList]
   refine wpAny_forIn_list _ (fun d7 r s'=>r.1=none/\s'=s/\ ∃ ds bs,ReadsAll s.heap d7 ds bs/\hks ds=true/\PyData.depthAll ds<=n) _ ?_ ?_ _ _ ⟨rfl,rfl,xs,as,hall,hd',hn'⟩
   ·rintro x d7 r s' ⟨hr,rfl,ds,bs,hra,k1,k2⟩
    cases hra with
    | @cons _ _ d1 ds1 as1 bs1 r1 r2=>
     simp only [hks,au] at k1
     simp only [PyData.depthAll] at k2
     refine aa (ih d1 x as1 _ _ _ _ k1.1 (by omega) r1 ?_)
     simp only [ax,if_false]
     exact ae ⟨rfl,rfl,ds1,bs1,r2,k1.2,by omega⟩
   ·rintro⟨r1,r2⟩ s' ⟨hr,rfl,_⟩
    simp only at hr
    subst hr
    exact ae h
theorem aCg: ∀ (n:Nat) (d:PyData) (v:Value) (as:List Addr) (A:Around) (s:Shared) (Q:Bool->Shared->Prop) (E:Value->Shared->Prop),hk d=true->d.depth<=n->Reads s.heap v d as->Q true s->wpAny (model prog w) A (hashByValue n v) Q E s:=by
 intro n
 induction n with
 | zero=>
  intro d v as A s Q E hd hn hr h
  cases hr with
  | tuple=>simp [PyData.depth] at hn
  | none=>exact ae h
  | int i t=>exact ae h
  | bool b=>cases hd
  | str x t=>cases hd
  | list=>cases hd
  | dict=>cases hd
 | succ n ih=>
  intro d v as A s Q E hd hn hr h
  cases hr with
  | none=>exact ae h
  | int i t=>exact ae h
  | bool b=>cases hd
  | str x t=>cases hd
  | list=>cases hd
  | dict=>cases hd
  | @tuple a o vs k xs as ho hc hdat hall=>
   have hT:s.TypeIs (.ref a) "tuple":=⟨o,ho,hc⟩
   have hd':hks xs=true:=by simpa [hk] using hd
   have hn':PyData.depthAll xs<=n:=by simp only [PyData.depth] at hn;omega
   unfold hashByValue
   refine aa (wpAny_specialOf hT F.slot_tuple_hash.lookup ?_)
   show wpAny _ _ (seqItems? (.ref a) >>= _) _ _ s
   refine aa (wpAny_seqItems ho hdat ?_)
   refine aa ?_
   show wpAny _ _ (forIn vs _ _) _ _ s
   rw [<-Array.forIn_toList]
   refine wpAny_forIn_list _ (fun d7 r s'=>r.1=none/\s'=s/\ ∃ ds bs,ReadsAll s.heap d7 ds bs/\hks ds=true/\PyData.depthAll ds<=n) _ ?_ ?_ _ _ ⟨rfl,rfl,xs,as,hall,hd',hn'⟩
   ·rintro x d7 r s' ⟨hr,rfl,ds,bs,hra,k1,k2⟩
    cases hra with
    | @cons _ _ d1 ds1 as1 bs1 r1 r2=>
     simp only [hks,au] at k1
     simp only [PyData.depthAll] at k2
     refine aa (ih d1 x as1 _ _ _ _ k1.1 (by omega) r1 ?_)
     simp only [Bool.not_true,ax,if_false]
     exact ae ⟨rfl,rfl,ds1,bs1,r2,k1.2,by omega⟩
   ·rintro⟨r1,r2⟩ s' ⟨hr,rfl,_⟩
    simp only at hr
    subst hr
    exact ae h
end
abbrev Ln:=List (Nat×Int×Value)
noncomputable def aLa (L:Ln) (m mv ep:Nat) (led:Bool):Obj:=fY (L.map (·.2)).toArray ep (tbl m mv led (L.map (·.1)))
theorem mV {L:Ln} {m mv:Nat} {led:Bool} (h:L.length<=m):(tbl m mv led (L.map (·.1))).fits ((L.map (·.2)).toArray).size=true:=by
 unfold SetTable.fits SetTable.fill
 simp [tbl,h]
theorem uJ {L:Ln} {m mv:Nat} {led:Bool} (hT:TI m L) {e:Nat×Int×Value} (he:e∈L): ∃ i,(tbl m mv led (L.map (·.1))).slot e.1= .live i/\L[i]? =some e:=by
 obtain⟨i,hi,rfl⟩:=List.getElem_of_mem he
 have hi':i<(L.map (·.1)).length:=by simpa using hi
 refine⟨i, ?_,ba hi⟩
 have:=aG3 (m:=m) (mv:=mv) (led:=led) hT.up hi'
 rwa [List.getElem_map] at this
section
variable {prog:Program} {w:World} {A:Around} {E:Value->Shared->Prop} {s:Shared}
theorem qG {a x:Addr} {L:Ln} {m mv ep:Nat} {led:Bool} {h:Int} {eqf:Nat×Int×Value->Bool} {Q:SetFound->Shared->Prop} (ho:s.heap.get? a=some (aLa L m mv ep led)) (hT:TI m L) (hl:L.length<=m) (hodd:m % 2=1)
  (hEq: ∀ e∈L,SeqAt.EqAt A s e.2.2 (.ref x) (eqf e)) (hR: ∀ e∈L, ∃ b,e.2.2= .ref b)
  (hS:led=false-> ∀ (l:List Value) (Q':Bool->Shared->Prop),(∀ y∈l, ∃ e∈L,e.2.2=y)->Q' false s->wpAny (model prog w) A (searchCouldBeSeen (.ref x) l) Q' E s):
  ∀ (n k fuel:Nat) (K:Nat) (stand:Option SetTable.Probe),K - k=n->k<=K->n<fuel->K<10 * SetTable.turns m->stand.getD ((tbl m mv led (L.map (·.1))).probeStart h)=pr m h k->
   (∀ b,b<K-> ∃ e∈L,(pr m h b).j=e.1/\(e.2.1=h->eqf e=false))->
   (((pr m h K).j∉L.map (·.1)/\Q (.free (pr m h K).j false) s)\/(∃ e∈L,(pr m h K).j=e.1/\e.2.1=h/\eqf e=true/\Q (.there none) s))->
   wpAny (model prog w) A (setSearchFrom a (.ref x) h true fuel stand) Q E s:=by
 intro n
 induction n using Nat.strongRecOn with
 | ind n ih=>
  intro k fuel K stand hn hk hf hK hst hb hend
  obtain⟨fu,rfl⟩: ∃ fu,fuel=fu+1:=⟨fuel - 1,by omega⟩
  unfold setSearchFrom
  refine aa (wpAny_setState_of ho rfl (mV hl) ?_)
  dsimp only
  have hg:(tbl m mv led (L.map (·.1))).gaveWay=false:=by
   show(m % 2==0)=false
   rw [hodd];rfl
  rw [hg]
  simp only [ax,↓reduceIte]
  rw [hst]
  -- the first place that counts
  obtain⟨c,c1,c2,c3,c4⟩:=kA (P:=fun b=>(pr m h b).j∉L.map (·.1)\/ ∃ e∈L,(pr m h b).j=e.1/\e.2.1=h) _ k K rfl hk (by
   rcases hend with z | ⟨e,z1,z2,z3,_⟩
   ·exact .inl z.1
   ·exact .inr ⟨e,z1,z2,z3⟩)
  have hpre: ∀ b,k<=b->b<c-> ∃ i,(tbl m mv led (L.map (·.1))).slot (pr m h b).j= .live i/\(((L.map (·.2)).toArray[i]?.map (·.1)).getD 0)≠h:=fun b b1 b2=>by
   obtain⟨e,e1,e2,_⟩:=hb b (by omega)
   obtain⟨i,i1,i2⟩:=uJ (mv:=mv) (led:=led) hT e1
   refine⟨i,by rw [e2];exact i1,fun z=>c4 b b1 b2 (.inr ⟨e,e1,e2, ?_⟩)⟩
   simpa [i2] using z
  have hfl:c<k+10 * SetTable.turns m:=by omega
  rcases c3 with c3 | ⟨e,e1,e2,e3⟩
  ·-- empty
   have ce:c=K:=by
    refine Classical.byContradiction fun z=> ?_
    obtain⟨e,e1,e2,_⟩:=hb c (by omega)
    exact c3 (by rw [e2];exact ao.mpr ⟨e,e1,rfl⟩)
   subst ce
   have hp:(tbl m mv led (L.map (·.1))).probe (fun i=>((L.map (·.2)).toArray[i]?.map (·.1)).getD 0) h (pr m h k)=some (.empty (pr m h c).j none):=aK7 c1 hfl hpre (aCe c3)
   erw [hp]
   dsimp only
   rcases hend with z | ⟨e,z1,z2,_⟩
   ·exact ae z.2
   ·exact absurd (by rw [z2];exact ao.mpr ⟨e,z1,rfl⟩) c3
  ·obtain⟨i,i1,i2⟩:=uJ (mv:=mv) (led:=led) hT e1
   have hi:(L.map (·.2)).toArray[i]? =some e.2:=by simp [i2]
   have hp:(tbl m mv led (L.map (·.1))).probe (fun i=>((L.map (·.2)).toArray[i]?.map (·.1)).getD 0) h (pr m h k)=some (.candidate (pr m h c).j i (pr m h (c+1))):=aK8 c1 hfl hpre (by rw [e2];exact i1) (by rw [hi];exact e3)
   erw [hp]
   dsimp only
   have d7:wpAny (model prog w) A (do
     let some (_,y):=(L.map (·.2)).toArray[i]? | unsupported "internal:set-entry"
     let equal<-holding [y] (eqBool y (.ref x))
     let (es',_,t')<-setState a
     if true&&equal then return .there none
     let some same:=t'.sameMemory (tbl m mv led (L.map (·.1))).moves (tbl m mv led (L.map (·.1))).mask | unsupported "set.changed-during-lookup:is-the-new-block-at-the-old-address"
     let still<-match(if same then t'.slot (pr m h c).j else .empty) with
      | .live i'=>match es'[i']? with
       | some (_,y')=>do pure (if<-isSame y' y then some i' else none)
       | none=>pure none
      | _=>pure none
     match still with
     | none=>rule "set.search.anew";setSearchFrom a (.ref x) h true fu none
     | some i'=>if equal then return .there (some i') else setSearchFrom a (.ref x) h true fu (some (pr m h (c+1)))) Q E s:=by
    rw [hi]
    obtain⟨ep',eh,ev⟩:=e
    dsimp only
    refine aa (wpAny_holding (hEq _ e1 _ _ _ _ ?_))
    refine aa (wpAny_setState_of ho rfl (mV hl) ?_)
    dsimp only
    cases hq:eqf (ep',eh,ev) with
    | true=>
     simp only [Bool.and_self,↓reduceIte]
     have ce:c=K:=by
      refine Classical.byContradiction fun z=> ?_
      obtain⟨e',e1',e2',e3'⟩:=hb c (by omega)
      have:e'=(ep',eh,ev):=by
       obtain⟨j,j1,j2⟩:=uJ (mv:=mv) (led:=led) hT e1'
       rw [<-e2',e2,i1] at j1
       cases j1
       exact Option.some.inj (j2.symm.trans i2)
      subst this
      rw [e3' e3] at hq;cases hq
     subst ce
     rcases hend with z | ⟨e',z1,z2,z3,z4,z5⟩
     ·exact absurd (by rw [e2];exact ao.mpr ⟨_,e1,rfl⟩) z.1
     ·exact ae z5
    | false=>
     simp only [Bool.and_false,ax,↓reduceIte]
     have hsm:(tbl m mv led (L.map (·.1))).sameMemory (tbl m mv led (L.map (·.1))).moves (tbl m mv led (L.map (·.1))).mask=some true:=by
      unfold SetTable.sameMemory
      rw [if_pos (by simp)]
     rw [hsm]
     simp only [↓reduceIte]
     rw [e2,i1]
     dsimp only
     rw [hi]
     dsimp only
     obtain⟨b,rfl⟩:=hR _ e1
     refine aa (wpAny_isSame_ref_self ?_)
     simp only [↓reduceIte]
     refine aa (ae ?_)
     dsimp only
     have ck:c<K:=by
      refine Nat.lt_of_le_of_ne c2 fun z=> ?_
      subst z
      rcases hend with z | ⟨e',z1,z2,z3,z4,z5⟩
      ·exact z.1 (by rw [e2];exact ao.mpr ⟨_,e1,rfl⟩)
      ·have:e'=(ep',eh,Value.ref b):=by
        obtain⟨j,j1,j2⟩:=uJ (mv:=mv) (led:=led) hT z1
        rw [<-z2,e2,i1] at j1
        cases j1
        exact Option.some.inj (j2.symm.trans i2)
       subst this
       rw [z4] at hq;cases hq
     exact ih (K - (c+1)) (by omega) (c+1) fu K _ rfl (by omega) (by omega) hK rfl hb hend
   cases led with
   | true=>exact d7
   | false=>
    have hled:(tbl m mv false (L.map (·.1))).led=false:=rfl
    rw [hled]
    simp only [Bool.not_false,↓reduceIte]
    refine aa (hS rfl _ _ (fun y hy=> ?_) ?_)
    ·obtain⟨q,q1,q2⟩:=ao.mp hy
     have:q∈L.map (·.2):=by
      have:=(Array.mem_toList_iff.mp q1)
      have:=(Array.mem_filter.mp this).1
      simpa using this
     obtain⟨e',m1,m2⟩:=ao.mp this
     exact⟨e',m1,by rw [m2,q2]⟩
    ·simp only [ax,↓reduceIte]
     exact d7
end
def Ms (m:Nat):Prop:=m=7\/m=31\/m=127
theorem Ms.cyc {m:Nat} (h:Ms m):Cyc m:=by
 rcases h with rfl | rfl | rfl
 ·exact aPy
 ·exact aNr
 ·exact aK5
theorem Ms.odd {m:Nat} (h:Ms m):m % 2=1:=by rcases h with rfl | rfl | rfl<;>rfl
def Key (h:Heap) (d:PyData) (v:Value):Prop:=(∃ b,v= .ref b)/\hk d=true/\d.depth<=8/\ ∃ as,Reads h v d as
section
variable {prog:Program} {w:World} {A:Around} {E:Value->Shared->Prop} {s:Shared}
theorem aHa {x:Addr} {d:PyData} (hx:Key s.heap d (.ref x)) (l:List Value) (Q:Bool->Shared->Prop) (hl: ∀ y∈l, ∃ d',Key s.heap d' y) (h:Q false s):wpAny (model prog w) A (searchCouldBeSeen (.ref x) l) Q E s:=by
 obtain⟨_,hd,hn,as,hr⟩:=hx
 unfold searchCouldBeSeen
 refine aa ?_
 refine wpAny_forIn_list _ (fun d7 r s'=>r.1=none/\s'=s/\ ∀ y∈d7, ∃ d',Key s.heap d' y) _ ?_ ?_ _ _ ⟨rfl,rfl,hl⟩
 ·rintro y d7 r s' ⟨hr',rfl,hall⟩
  obtain⟨d',⟨b,rfl⟩,hd',hn',as',r2⟩:=hall y (.head _)
  have hall': ∀ y∈d7, ∃ d',Key s'.heap d' y:=fun y hy=>hall y (.tail _ hy)
  dsimp only [carriedByValue]
  simp only [Bool.and_self,Bool.or_false]
  split
  ·exact ae ⟨rfl,rfl,hall'⟩
  ·refine aa (uH 8 d _ as _ _ _ _ hd hn hr ?_)
   simp only [Bool.not_true,ax,if_false]
   refine aa (uH 8 d' _ as' _ _ _ _ hd' hn' r2 ?_)
   simp only [Bool.not_true,ax,if_false]
   refine aa (uI 8 d _ as _ _ _ _ hd hn hr ?_)
   simp only [ax,if_false]
   refine aa (uI 8 d' _ as' _ _ _ _ hd' hn' r2 ?_)
   simp only [ax,if_false]
   exact ae ⟨rfl,rfl,hall'⟩
 ·rintro⟨r1,r2⟩ s' ⟨hr',rfl,_⟩
  simp only at hr'
  subst hr'
  exact ae h
noncomputable def iS (L:Ln) (j:Nat) (h:Int) (v:Value):Ln:=L.take (SetTable.below (L.map (·.1)).toArray j)++(j,h,v)::L.drop (SetTable.below (L.map (·.1)).toArray j)
theorem mW (L:Ln) (j:Nat) (h:Int) (v:Value):(iS L j h v).Perm ((j,h,v)::L):=List.perm_middle.trans (List.Perm.of_eq (by rw [List.take_append_drop]))
theorem aNt {L:Ln} {m mv j:Nat} {led:Bool} (h:Int) (v:Value):(tbl m mv led (L.map (·.1))).put j=(tbl m mv led ((iS L j h v).map (·.1)),SetTable.below (L.map (·.1)).toArray j):=by
 unfold SetTable.put
 refine Prod.ext ?_ rfl
 show({ tbl m mv led (L.map (·.1)) with place:=SetTable.insertAt (L.map (·.1)).toArray (SetTable.below (L.map (·.1)).toArray j) j,dummies:= #[] }:SetTable)=_
 have e:SetTable.insertAt (L.map (·.1)).toArray (SetTable.below (L.map (·.1)).toArray j) j=((iS L j h v).map (·.1)).toArray:=by
  apply Array.toList_inj.mp
  rw [SetTable.toList_insertAt]
  simp [iS]
 rw [e]
 rfl
theorem aNu {L:Ln} {j:Nat} (h:Int) (v:Value):SetTable.insertAt (L.map (·.2)).toArray (SetTable.below (L.map (·.1)).toArray j) (h,v)=((iS L j h v).map (·.2)).toArray:=by
 apply Array.toList_inj.mp
 rw [SetTable.toList_insertAt]
 simp [iS]
theorem TI.add {L:Ln} {m K:Nat} {h:Int} (hT:TI m L) (v:Value) (h1:K<10 * SetTable.turns m) (h2:(pr m h K).j∉L.map (·.1)) (h3: ∀ b,b<K->(pr m h b).j∈L.map (·.1)):TI m (iS L (pr m h K).j h v):=by
 have pe:=mW L (pr m h K).j h v
 have sub: ∀ y∈L.map (·.1),y∈(iS L (pr m h K).j h v).map (·.1):=fun y hy=>(pe.map (·.1)).mem_iff.mpr (.tail _ hy)
 refine⟨?_,fun x hx=> ?_,fun x hx=> ?_⟩
 ·obtain⟨qs,e,r,_⟩:=yW hT.up h2
  have:(iS L (pr m h K).j h v).map (·.1)=qs:=by
   have e2:SetTable.insertAt (L.map (·.1)).toArray (SetTable.below (L.map (·.1)).toArray (pr m h K).j) (pr m h K).j=((iS L (pr m h K).j h v).map (·.1)).toArray:=by
    apply Array.toList_inj.mp
    rw [SetTable.toList_insertAt]
    simp [iS]
   have:=e2.symm.trans e
   simpa using this
  rw [this];exact r
 ·rcases aq.mp (pe.mem_iff.mp hx) with rfl | hx
  ·exact aCf h K
  ·exact hT.le x hx
 ·rcases aq.mp (pe.mem_iff.mp hx) with rfl | hx
  ·exact⟨K,h1,rfl,fun b hb=>sub _ (h3 b hb)⟩
  ·exact(hT.rch x hx).mono sub
theorem aHb {a x:Addr} {L:Ln} {m mv ep:Nat} {led:Bool} {d:PyData} {Q:Bool->Shared->Prop} (hu:A.units+8<cLine) (ho:s.heap.get? a=some (aLa L m mv ep led)) (hT:TI m L) (hm:Ms m) (hl:L.length * 5<m * 3) (h76:L.length<76)
  (hx:Key s.heap d (.ref x)) (hE: ∀ e∈L, ∃ d',Key s.heap d' e.2.2/\e.2.1=hsh d')
  (old:(∃ e∈L, ∃ d',Key s.heap d' e.2.2/\PyData.eqv d' d=true)->Q false s)
  (new:(∀ e∈L, ∀ d',Key s.heap d' e.2.2->PyData.eqv d' d=false)-> ∀ (h':Heap) (L':Ln) (m' mv' ep':Nat),Heap.SameBut a s.heap h'->h'.get? a=some (aLa L' m' mv' ep' led)->TI m' L'->Ms m'->L'.length * 5<m' * 3->(L'.map (·.2)).Perm ((hsh d, .ref x)::L.map (·.2))->Q true { s with heap:=h' }):
  wpAny (model prog w) A (setAddHashed a (.ref x) (hsh d)) Q E s:=by
 have hlm:L.length<=m:=by rcases hm with rfl | rfl | rfl<;>omega
 have hbs:byScan (.ref x) (L.map (·.2)).toArray=false:=rfl
 unfold setAddHashed setAddHashedIn
 refine wpAny_holding (aa (wpAny_setState_of ho rfl (mV hlm) ?_))
 dsimp only
 rw [hbs]
 simp only [ax,↓reduceIte]
 obtain⟨_,hd,hn,as,hr⟩:=id hx
 -- what is compared
 have lay: ∀ {d:PyData},hk d=true->d.canLay0=true:=by
  intro d
  exact y9 d
 obtain⟨eqf,hef⟩: ∃ eqf:Nat×Int×Value->Bool, ∀ e,eqf e=true↔ ∃ d',Key s.heap d' e.2.2/\PyData.eqv d' d=true:=⟨fun e=> @decide _ (Classical.propDecidable (∃ d',Key s.heap d' e.2.2/\PyData.eqv d' d=true)),fun e=>by simp⟩
 have uniq: ∀ {v:Value} {d1 d2:PyData},Key s.heap d1 v->Key s.heap d2 v->d1=d2:=fun {v d1 d2} k1 k2=>by
  obtain⟨_,a1,_,b1,c1⟩:=k1
  obtain⟨_,a2,_,b2,c2⟩:=k2
  exact SeqAt.Reads.unique d1 d2 v b1 b2 (lay a1) c1 c2
 have hEq: ∀ e∈L,SeqAt.EqAt A s e.2.2 (.ref x) (eqf e):=fun e he=>by
  obtain⟨d',k',_⟩:=hE e he
  obtain⟨_,a2,a3,b2,c2⟩:=id k'
  have:=SeqAt.eqAt_reads d' d A s e.2.2 (.ref x) b2 as c2 hr (lay a2) (lay hd) (by omega)
  have ee:eqf e=PyData.eqv d' d:=by
   cases z:PyData.eqv d' d with
   | true=>exact(hef e).mpr ⟨d',k',z⟩
   | false=>
    refine Bool.eq_false_iff.mpr fun t=> ?_
    obtain⟨d2,k2,z2⟩:=(hef e).mp t
    rw [uniq k2 k',z] at z2;cases z2
  rw [ee];exact this
 have hS:led=false-> ∀ (l:List Value) (Q':Bool->Shared->Prop),(∀ y∈l, ∃ e∈L,e.2.2=y)->Q' false s->wpAny (model prog w) A (searchCouldBeSeen (.ref x) l) Q' E s:=fun _ l Q' hl' hq'=>aHa hx l Q' (fun y hy=>by
  obtain⟨e,he,rfl⟩:=hl' y hy
  obtain⟨d',k',_⟩:=hE e he
  exact⟨d',k'⟩) hq'
 have hRf: ∀ e∈L, ∃ b,e.2.2= .ref b:=fun e he=>by
  obtain⟨d',k',_⟩:=hE e he
  exact k'.1
 unfold setSearch
 by_cases hin: ∃ e∈L, ∃ d',Key s.heap d' e.2.2/\PyData.eqv d' d=true
 ·-- it is there
  obtain⟨e,he,d',k',z⟩:=id hin
  have eh:e.2.1=hsh d:=by
   obtain⟨d2,k2,e2⟩:=hE e he
   rw [e2,uniq k2 k',zB d' d k'.2.1 hd z]
  obtain⟨K0,r1,r2,r3⟩:=hT.rch e he
  rw [eh] at r2 r3
  obtain⟨c,c1,c2,c3,c4⟩:=kA (P:=fun b=> ∃ e∈L,(pr m (hsh d) b).j=e.1/\e.2.1=hsh d/\eqf e=true) _ 0 K0 rfl (bq _) ⟨e,he,r2,eh,(hef e).mpr ⟨d',k',z⟩⟩
  refine aa (qG ho hT hlm hm.odd hEq hRf hS _ 0 100000 c none rfl (bq _) (by have:SetTable.turns m=m+15:=rfl;rcases hm with rfl | rfl | rfl<;>omega) (by omega) rfl (fun b hb=> ?_) (.inr ?_))
  ·obtain⟨e',m1,m2⟩:=ao.mp (r3 b (by omega))
   refine⟨e',m1,m2.symm,fun q=> ?_⟩
   cases ef:eqf e' with
   | false=>rfl
   | true=>exact absurd ⟨e',m1,m2.symm,q,ef⟩ (c4 b (bq _) hb)
  ·obtain⟨e',m1,m2,m3,m4⟩:=c3
   exact⟨e',m1,m2,m3,m4,ae (old hin)⟩
 ·-- it is new
  obtain⟨K,k1,k2,k3⟩:=y6 hm.cyc (hsh d) (ps:=L.map (·.1)) (by simpa using hlm)
  have hno: ∀ e∈L, ∀ d',Key s.heap d' e.2.2->PyData.eqv d' d=false:=fun e he d' k'=>by
   cases z:PyData.eqv d' d with
   | false=>rfl
   | true=>exact absurd ⟨e,he,d',k',z⟩ hin
  refine aa (qG ho hT hlm hm.odd hEq hRf hS _ 0 100000 K none rfl (bq _) (by have:SetTable.turns m=m+15:=rfl;rcases hm with rfl | rfl | rfl<;>omega) k1 rfl (fun b hb=> ?_) (.inl ⟨k2, ?_⟩))
  ·obtain⟨e',m1,m2⟩:=ao.mp (k3 b hb)
   refine⟨e',m1,m2.symm,fun q=>Bool.eq_false_iff.mpr fun t=> ?_⟩
   obtain⟨d',k',z⟩:=(hef e').mp t
   rw [hno e' m1 d' k'] at z;cases z
  ·dsimp only
   refine aa (wpAny_setState_of ho rfl (mV hlm) ?_)
   dsimp only
   rw [aNt (hsh d) (.ref x)]
   dsimp only
   have hp:(tbl m mv led ((iS L (pr m (hsh d) K).j (hsh d) (.ref x)).map (·.1))).plain=true:=rfl
   rw [hp]
   simp only [↓reduceIte]
   refine aa (aCg 8 d _ as _ _ _ _ hd hn hr ?_)
   simp only [↓reduceIte]
   rw [aNu]
   have T1:=hT.add (.ref x) k1 k2 k3
   have pe:=mW L (pr m (hsh d) K).j (hsh d) (.ref x)
   have len1:(iS L (pr m (hsh d) K).j (hsh d) (.ref x)).length=L.length+1:=by rw [pe.length_eq];rfl
   have pe2:=pe.map (·.2)
   generalize iS L (pr m (hsh d) K).j (hsh d) (.ref x)=L1 at T1 pe len1 pe2 ⊢
   have hsz1:((L1.map (·.2)).toArray).size<scanBound:=by simp [len1,scanBound];omega
   refine aa (qB ho hsz1 fun h1 sb1 ho1=> ?_)
   have hfull:(tbl m mv led (L1.map (·.1))).tooFull=decide ((L.length+1) * 5≥m * 3):=by
    unfold SetTable.tooFull SetTable.fill
    simp [tbl,len1]
   rw [hfull]
   by_cases hf:(L.length+1) * 5≥m * 3
   ·rw [decide_eq_true hf]
    simp only [Bool.not_false,Bool.and_self,↓reduceIte]
    obtain⟨m',hm',hsz,hsl,hcap⟩: ∃ m',Ms m'/\SetTable.sizeAbove (SetTable.grown ((L.map (·.2)).toArray.size+1)) - 1=m'/\SetTable.sizeAbove (SetTable.grown ((L.map (·.2)).toArray.size+1))<=128/\(L.length+1) * 5<m' * 3:=by
     have e0:(L.map (·.2)).toArray.size=L.length:=by simp
     rw [e0]
     rcases hm with rfl | rfl | rfl
     ·have:L.length=4:=by omega
      rw [this]
      exact⟨31, .inr (.inl rfl),by decide,by decide,by decide⟩
     ·have:L.length=18:=by omega
      rw [this]
      exact⟨127, .inr (.inr rfl),by decide,by decide,by decide⟩
     ·omega
    have hlm1:L1.length<=m:=by rw [len1];rcases hm with rfl | rfl | rfl<;>omega
    unfold setRelay
    have ho1':h1.get? a=some (aLa L1 m mv (ep+1) led):=ho1
    refine aa (aa (wpAny_setState_of ho1' rfl (mV hlm1) ?_))
    dsimp only
    rw [if_neg (by rw [sizeLine_eq];omega)]
    have hrl:(tbl m mv led (L1.map (·.1))).relaid ((L1.map (·.2)).toArray.map (·.1)) (SetTable.grown ((L.map (·.2)).toArray.size+1))=SetTable.laid m' 0 ((tbl m mv led (L1.map (·.1))).movedTo m') led true ((L1.map (·.2)).map (·.1)).toArray:=by
     unfold SetTable.relaid
     rw [hsz,List.map_toArray]
     rfl
    obtain⟨L2,order,g1,g2,g3,g4⟩:=aG7 (m:=m') (f:=0) (mv:=(tbl m mv led (L1.map (·.1))).movedTo m') (led:=led) hm'.cyc (es:=L1.map (·.2)) (by rw [am,len1];rcases hm' with rfl | rfl | rfl<;>omega)
    rw [hrl,g1]
    have aBk:L2.length=L.length+1:=by have:=g4.length_eq;simp [len1] at this;exact this
    have hz2:((L2.map (·.2)).toArray).size=((L1.map (·.2)).toArray).size:=by simp [aBk,len1]
    refine aa ?_
    show wpAny _ _ (if((order.filterMap ((L1.map (·.2)).toArray[·]?)).size != ((L1.map (·.2)).toArray).size)=true then _ else _) _ _ _
    rw [g2,hz2]
    simp only [bne_self_eq_false,ax,↓reduceIte]
    refine ae ?_
    dsimp only
    refine qB (s:={ s with heap:=h1 }) ho1 (by rw [hz2];exact hsz1) fun h2 sb2 ho2=>ae ?_
    exact new hno h2 L2 m' _ _ (sb1.trans sb2) ho2 g3 hm' (by rw [aBk];exact hcap) (g4.trans pe2)
   ·rw [decide_eq_false hf]
    simp only [Bool.not_false,Bool.and_false,ax,↓reduceIte]
    exact ae (new hno h1 L1 m mv _ sb1 ho1 T1 hm (by rw [len1];omega) pe2)
end
mutual
theorem iT: ∀ {x y:D},same x y=true->(eV x).length=(eV y).length
 | .int _,y,h=>by cases y<;>simp [same] at h;rfl
 | .tup xs,y,h=>by
  cases y<;>simp [same] at h
  simp only [eV];exact qH h
 | .non,_,h=>by simp [same] at h
 | .bl _,_,h=>by simp [same] at h
 | .str _,_,h=>by simp [same] at h
 | .lst _,_,h=>by simp [same] at h
 | .exc _,_,h=>by simp [same] at h
 | .fn _,_,h=>by simp [same] at h
theorem qH: ∀ {xs ys:List D},a8 xs ys=true->(dF xs).length=(dF ys).length
 | [],[],_=>rfl
 | [],_::_,h=>by simp [a8] at h
 | _::_,[],h=>by simp [a8] at h
 | x::xs,y::ys,h=>by
  simp only [a8,au] at h
  simp only [dF,bn,iT h.1,qH h.2]
end
mutual
theorem oG: ∀ {x y:D},same x y=true->eV x=eV y->x=y
 | .int _,y,h,e=>by cases y<;>simp [same] at h;simpa [eV] using e
 | .tup xs,y,h,e=>by
  cases y<;>simp [same] at h
  simp only [eV] at e
  rw [qI h e]
 | .non,_,h,_=>by simp [same] at h
 | .bl _,_,h,_=>by simp [same] at h
 | .str _,_,h,_=>by simp [same] at h
 | .lst _,_,h,_=>by simp [same] at h
 | .exc _,_,h,_=>by simp [same] at h
 | .fn _,_,h,_=>by simp [same] at h
theorem qI: ∀ {xs ys:List D},a8 xs ys=true->dF xs=dF ys->xs=ys
 | [],[],_,_=>rfl
 | [],_::_,h,_=>by simp [a8] at h
 | _::_,[],h,_=>by simp [a8] at h
 | x::xs,y::ys,h,e=>by
  simp only [a8,au] at h
  simp only [dF] at e
  obtain⟨e1,e2⟩:=List.append_inj e (iT h.1)
  rw [oG h.1 e1,qI h.2 e2]
end
mutual
theorem kB: ∀ {x y:D},same x y=true->deq x y=(eV x==eV y)
 | .int i,y,h=>by
  cases y<;>simp [same] at h
  simp [deq,eV]
 | .tup xs,y,h=>by
  cases y<;>simp [same] at h
  simp only [deq,eV];exact qJ h
 | .non,_,h=>by simp [same] at h
 | .bl _,_,h=>by simp [same] at h
 | .str _,_,h=>by simp [same] at h
 | .lst _,_,h=>by simp [same] at h
 | .exc _,_,h=>by simp [same] at h
 | .fn _,_,h=>by simp [same] at h
theorem qJ: ∀ {xs ys:List D},a8 xs ys=true->mG xs ys=(dF xs==dF ys)
 | [],[],_=>rfl
 | [],_::_,h=>by simp [a8] at h
 | _::_,[],h=>by simp [a8] at h
 | x::xs,y::ys,h=>by
  simp only [a8,au] at h
  simp only [mG,dF,kB h.1,qJ h.2]
  rw [Bool.eq_iff_iff]
  simp only [au,beq_iff_eq]
  constructor
  ·rintro⟨a,b⟩;rw [a,b]
  ·intro e;exact List.append_inj e (iT h.1)
end
mutual
theorem lC: ∀ {x:D},same x x=true->hk (bJ x)=true
 | .int _,_=>by simp [bJ,hk]
 | .tup xs,h=>by
  simp only [bJ,hk];exact uK (by simpa [same] using h)
 | .non,h=>by simp [same] at h
 | .bl _,h=>by simp [same] at h
 | .str _,h=>by simp [same] at h
 | .lst _,h=>by simp [same] at h
 | .exc _,h=>by simp [same] at h
 | .fn _,h=>by simp [same] at h
theorem uK: ∀ {xs:List D},a8 xs xs=true->hks (aQ xs)=true
 | [],_=>by simp [aQ,hks]
 | x::xs,h=>by
  simp only [a8,au] at h
  simp [aQ,hks,lC h.1,uK h.2]
end
mutual
theorem cS: ∀ {x:D},same x x=true->plain x=true
 | .int _,_=>by simp [plain]
 | .tup xs,h=>by
  simp only [plain];exact lD (by simpa [same] using h)
 | .non,h=>by simp [same] at h
 | .bl _,h=>by simp [same] at h
 | .str _,h=>by simp [same] at h
 | .lst _,h=>by simp [same] at h
 | .exc _,h=>by simp [same] at h
 | .fn _,h=>by simp [same] at h
theorem lD: ∀ {xs:List D},a8 xs xs=true->aH xs=true
 | [],_=>by simp [aH]
 | x::xs,h=>by
  simp only [a8,au] at h
  simp [aH,cS h.1,lD h.2]
end
mutual
theorem uL: ∀ {x y:D},same x y=true->same y y=true/\same x x=true/\dep y=dep x
 | .int _,y,h=>by cases y<;>simp [same] at h;simp [same,dep]
 | .tup xs,y,h=>by
  cases y<;>simp [same] at h
  simp only [same,dep]
  have:=zC h
  exact⟨this.1,this.2.1,by rw [this.2.2]⟩
 | .non,_,h=>by simp [same] at h
 | .bl _,_,h=>by simp [same] at h
 | .str _,_,h=>by simp [same] at h
 | .lst _,_,h=>by simp [same] at h
 | .exc _,_,h=>by simp [same] at h
 | .fn _,_,h=>by simp [same] at h
theorem zC: ∀ {xs ys:List D},a8 xs ys=true->a8 ys ys=true/\a8 xs xs=true/\jM ys=jM xs
 | [],[],_=>⟨rfl,rfl,rfl⟩
 | [],_::_,h=>by simp [a8] at h
 | _::_,[],h=>by simp [a8] at h
 | x::xs,y::ys,h=>by
  simp only [a8,au] at h
  have a:=uL h.1
  have b:=zC h.2
  simp only [a8,jM,a.1,b.1,a.2.1,b.2.1,a.2.2,b.2.2,Bool.and_self,and_self]
end
mutual
theorem zD: ∀ {x y z:D},same x y=true->same x z=true->same y z=true
 | .int _,y,z,h,k=>by cases y<;>simp [same] at h;cases z<;>simp [same] at k;rfl
 | .tup xs,y,z,h,k=>by
  cases y<;>simp [same] at h
  cases z<;>simp [same] at k
  simp only [same];exact uM h k
 | .non,_,_,h,_=>by simp [same] at h
 | .bl _,_,_,h,_=>by simp [same] at h
 | .str _,_,_,h,_=>by simp [same] at h
 | .lst _,_,_,h,_=>by simp [same] at h
 | .exc _,_,_,h,_=>by simp [same] at h
 | .fn _,_,_,h,_=>by simp [same] at h
theorem uM: ∀ {xs ys zs:List D},a8 xs ys=true->a8 xs zs=true->a8 ys zs=true
 | [],[],[],_,_=>rfl
 | [],_::_,_,h,_=>by simp [a8] at h
 | [],[],_::_,_,h=>by simp [a8] at h
 | _::_,[],_,h,_=>by simp [a8] at h
 | _::_,_::_,[],_,h=>by simp [a8] at h
 | x::xs,y::ys,z::zs,h,k=>by
  simp only [a8,au] at h k ⊢
  exact⟨zD h.1 k.1,uM h.2 k.2⟩
end
theorem oH: ∀ {a b:List Int} {r t:List Int},a.length=b.length->fI (a++r) (b++t)=if a=b then fI r t else fI a b
 | [],[],_,_,_=>by simp
 | [],_::_,_,_,h=>by simp at h
 | _::_,[],_,_,h=>by simp at h
 | x::a,y::b,r,t,h=>by
  have ih:=oH (a:=a) (b:=b) (r:=r) (t:=t) (by simpa using h)
  simp only [List.cons_append,fI]
  by_cases e:x=y
  ·subst e
   simp only [↓reduceIte,ih,List.cons.injEq,true_and]
  ·simp [e]
theorem mX: ∀ {xs ys:List D},a8 xs ys=true->xs.length=ys.length
 | [],[],_=>rfl
 | [],_::_,h=>by simp [a8] at h
 | _::_,[],h=>by simp [a8] at h
 | x::xs,y::ys,h=>by
  simp only [a8,au] at h
  simp [mX h.2]
section
variable {prog:Program} {w:World}
theorem aNv: ∀ (n:Nat) (x y:D) (u v:Value) (as bs:List Addr) (A:Around) (s:Shared) (Q:Value->Shared->Prop) (E:Value->Shared->Prop),same x y=true->dep x<=n->Reads s.heap u (bJ x) as->Reads s.heap v (bJ y) bs->A.units+n<cLine->Q (.bool (ltD x y)) s->wpAny (model prog w) A (richCompare .Lt u v) Q E s:=by
 intro n
 have hint: ∀ (i j:Int) (u v:Value) (as bs:List Addr) (A:Around) (s:Shared) (Q:Value->Shared->Prop) (E:Value->Shared->Prop),Reads s.heap u (bJ (.int i)) as->Reads s.heap v (bJ (.int j)) bs->Q (.bool (ltD (.int i) (.int j))) s->wpAny (model prog w) A (richCompare .Lt u v) Q E s:=by
  intro i j u v as bs A s Q E r1 r2 h
  simp only [bJ] at r1 r2
  cases r1
  cases r2
  have e:ltD (.int i) (.int j)=decide (i<j):=by
   unfold ltD eV fI
   by_cases z:i=j
   ·subst z;simp [fI]
   ·simp [z]
  rw [e] at h
  exact wpAny_lt_int h
 induction n with
 | zero=>
  intro x y u v as bs A s Q E hs hn r1 r2 hu h
  cases x<;>try (simp [same] at hs;done)
  ·cases y<;>simp [same] at hs
   exact hint _ _ u v as bs A s Q E r1 r2 h
  ·simp [dep] at hn
 | succ n ih=>
  intro x y u v as bs A s Q E hs hn r1 r2 hu h
  cases x<;>try (simp [same] at hs;done)
  ·cases y<;>simp [same] at hs
   exact hint _ _ u v as bs A s Q E r1 r2 h
  ·rename_i xs
   cases y<;>simp [same] at hs
   rename_i ys
   simp only [dep] at hn
   have h':Q (.bool (fI (dF xs) (dF ys))) s:=by
    have:ltD (.tup xs) (.tup ys)=fI (dF xs) (dF ys):=by simp [ltD,eV]
    rw [<-this];exact h
   simp only [bJ] at r1 r2
   cases r1 with
   | @tuple a oa us na _ as1 ho1 hc1 hd1 ra=>
    cases r2 with
    | @tuple b ob vs nb _ bs1 ho2 hc2 hd2 rb=>
     have hT1:s.TypeIs (.ref a) "tuple":=⟨oa,ho1,hc1⟩
     have hT2:s.TypeIs (.ref b) "tuple":=⟨ob,ho2,hc2⟩
     refine wpAny_richCompare_same_room (op:= .Lt) hT1 hT2 PySem.F.slot_tuple_lt (wpAny_call_entry PySem.F.slot_tuple_lt hT1 PySem.F.entry_tuple_lt ?_ (PySem.F.args_tuple_lt_2 _ _)) (by omega)
     show wpAny _ _ (isInstance (.ref b) (.type "tuple") >>= _) _ _ s
     refine aa (wpAny_isInstance hT2 isSubtype_tuple_tuple ?_)
     simp only [Bool.not_true,ax,if_false]
     refine aa (wpAny_tupleItemsOf ho1 hd1 ?_)
     refine aa (wpAny_tupleItemsOf ho2 hd2 ?_)
     refine aa ?_
     refine wpAny_forIn_list _
      (fun d7 r s'=>r.1=none/\s'=s/\ ∃ xs' ys' us' vs' as' bs',d7=List.zip us' vs'/\ReadsAll s.heap us' (aQ xs') as'/\ReadsAll s.heap vs' (aQ ys') bs'/\a8 xs' ys'=true/\jM xs'<=n/\fI (dF xs') (dF ys')=fI (dF xs) (dF ys))
      _ ?_ ?_ _ _ ⟨rfl,rfl,xs,ys,us.toList,vs.toList,as,bs,rfl,ra,rb,hs,by omega,rfl⟩
     ·rintro⟨p,q⟩ d7 r s' ⟨hr,rfl,xs',ys',us',vs',as',bs',hz,ra',rb',hs',hn',hl'⟩
      cases xs' with
      | nil=>
       simp only [aQ] at ra'
       cases ra'
       simp at hz
      | cons x1 xs1=>
       cases ys' with
       | nil=>simp [a8] at hs'
       | cons y1 ys1=>
        simp only [aQ] at ra' rb'
        cases ra' with
        | @cons u1 us1 _ _ a1 a2 ru ra2=>
         cases rb' with
         | @cons v1 vs1 _ _ b1 b2 rv rb2=>
          simp only [List.zip_cons_cons,List.cons.injEq,Prod.mk.injEq] at hz
          obtain⟨⟨rfl,rfl⟩,rfl⟩:=hz
          simp only [a8,au] at hs'
          simp only [jM] at hn'
          obtain⟨s1,s2,s3⟩:=uL hs'.1
          have p1:=cS s2
          have p2:=cS s1
          have heq:=SeqAt.eqAt_reads (bJ x1) (bJ y1) A.in1 s' p q a1 b1 ru rv (fW p1) (fW p2) (by rw [fX,fX];have:=A.in1_units;omega)
          rw [gF x1 y1 p1 p2,kB hs'.1] at heq
          refine aa (heq prog w _ _ ?_)
          simp only [dF] at hl'
          rw [oH (iT hs'.1)] at hl'
          by_cases hk:eV x1=eV y1
          ·rw [if_pos hk] at hl'
           rw [hk]
           simp only [beq_self_eq_true,Bool.not_true,ax,if_false]
           exact ae ⟨rfl,rfl,xs1,ys1,us1,vs1,a2,b2,rfl,ra2,rb2,hs'.2,by omega,hl'⟩
          ·rw [if_neg hk] at hl'
           have e:(eV x1==eV y1)=false:=by simpa using hk
           rw [e]
           simp only [Bool.not_false,if_true]
           refine aa (wpAny_rule (aa (ih x1 y1 p q a1 b1 A.in1 s' _ _ hs'.1 (by omega) ru rv (by have:=A.in1_units;omega) ?_)))
           refine aa (ae (ae (ae ?_)))
           have:ltD x1 y1=fI (dF xs) (dF ys):=hl'
           rw [this]
           exact⟨_,rfl,(fun e=>nomatch e),h'⟩
     ·rintro⟨r1,r2⟩ s' ⟨hr,rfl,xs',ys',us',vs',as',bs',hz,ra',rb',hs',hn',hl'⟩
      simp only at hr
      subst hr
      refine ae ?_
      cases xs' with
      | cons x1 xs1=>
       cases ys' with
       | nil=>simp [a8] at hs'
       | cons y1 ys1=>
        simp only [aQ] at ra' rb'
        cases ra'
        cases rb'
        simp at hz
      | nil=>
       cases ys' with
       | cons y1 ys1=>simp [a8] at hs'
       | nil=>
        have hsz:us.size=vs.size:=by
         have l1:=SeqAt.ReadsAll.length _ _ _ ra
         have l2:=SeqAt.ReadsAll.length _ _ _ rb
         have:=mX hs
         have e1: ∀ l:List D,(aQ l).length=l.length:=fun l=>by induction l with | nil=>rfl | cons a l ih=>simp [aQ,ih]
         rw [e1] at l1 l2
         have q:us.toList.length=vs.toList.length:=by rw [l1,l2];exact this
         simpa using q
        have e:fI (dF xs) (dF ys)=false:=by rw [<-hl'];rfl
        rw [e] at h'
        refine⟨_,rfl,(fun e=>nomatch e), ?_⟩
        show Q (.bool (decide (us.size<vs.size))) s'
        rw [hsz,decide_eq_false (Nat.lt_irrefl _)]
        exact h'
end
section
variable {O:KeyOrd} {key:Nat->O.α} {n:Nat} {cmp:Nat->Nat->(Bool->Shared->Prop)->Shared->Prop} {s:Shared}
noncomputable def PK (key:Nat->O.α) (p:Array Nat) (i:Nat):O.α:=key (p.getD i 0)
def Gd (n:Nat) (p:Array Nat):Prop:=p.Perm (List.toArray (List.range n))
theorem Gd.size {p:Array Nat} (g:Gd n p):p.size=n:=by rw [Array.Perm.size_eq g];simp
theorem Gd.lt {p:Array Nat} (g:Gd n p) {i:Nat} (hi:i<n):p.getD i 0<n:=by
 have h:i<p.size:=by rw [g.size];exact hi
 have e:p.getD i 0=p[i]:=by simp [Array.getD,h]
 have m:p[i]∈p:=Array.getElem_mem h
 have:=(Array.Perm.mem_iff g).mp m
 rw [e]
 simpa using this
def Srt (key:Nat->O.α) (p:Array Nat) (m:Nat):Prop:= ∀ i j,i<=j->j<m->O.kle (PK key p i) (PK key p j)
def Fal (key:Nat->O.α) (p:Array Nat) (m:Nat):Prop:= ∀ i j,i<=j->j<m->O.kle (PK key p j) (PK key p i)
def Cm (key:Nat->O.α) (n:Nat) (cmp:Nat->Nat->(Bool->Shared->Prop)->Shared->Prop) (s:Shared):Prop:= ∀ i j (C:Bool->Shared->Prop),i<n->j<n->C (O.blt (key i) (key j)) s->cmp i j C s
theorem qK {p q:Array Nat} {i j:Nat} (h:p[i]? =q[j]?):PK key p i=PK key q j:=by
 unfold PK
 simp only [Array.getD_eq_getD_getElem?,h]
theorem qL {p:Array Nat} {i j:Nat} (hj:j<=p.size) (k:Nat):PK key (kas_rev p i j) k=if i<=k/\k<j then PK key p (i+j - 1 - k) else PK key p k:=by
 have e:=getElem?_mirror_all (i:=i) hj k
 unfold kas_rev
 split
 ·rename_i h;rw [if_pos h] at e;exact qK e
 ·rename_i h;rw [if_neg h] at e;exact qK e
theorem qM {p:Array Nat} (g:Gd n p) (i j:Nat):Gd n (kas_rev p i j):=(mirror_perm _ _ _ _).trans g
theorem aEh {p:Array Nat} {k d:Nat} (hk:k<p.size) (hd:d<=k) (i:Nat):PK key (bubble p k d) i=if i=k - d then PK key p k else if k - d<i/\i<=k then PK key p (i - 1) else PK key p i:=by
 have e:=getElem?_bubble hk d hd i
 by_cases h1:i=k - d
 ·rw [if_pos h1] at e ⊢;exact qK e
 ·rw [if_neg h1] at e ⊢
  by_cases h2:k - d<i/\i<=k
  ·rw [if_pos h2] at e ⊢;exact qK e
  ·rw [if_neg h2] at e ⊢;exact qK e
theorem aLb {p:Array Nat} (g:Gd n p) (k d:Nat):Gd n (bubble p k d):=(bubble_perm _ _ _).trans g
theorem zE (hc:Cm key n cmp s) {p:Array Nat} (g:Gd n p) {G:Nat->Shared->Prop}: ∀ (f k:Nat),1<=k->k+f<=n->Srt key p k->(∀ m,k<=m->m<=k+f->Srt key p m->(m<k+f->O.klt (PK key p m) (PK key p (m - 1)))->G m s)->(kas_asc p f k).kasWp cmp G s
 | 0,k,_,_,hs,h=>h k (aj _) (aj _) hs fun z=>absurd z (Nat.lt_irrefl _)
 | f+1,k,h1,hf,hs,h=>by
  refine hc _ _ _ (g.lt (by omega)) (g.lt (by omega)) ?_
  cases hb:O.blt (key (p.getD k 0)) (key (p.getD (k - 1) 0)) with
  | true=>exact h k (aj _) (by omega) hs fun _=>hb
  | false=>
   refine zE hc g f (k+1) (by omega) (by omega) (fun i j hij hj=> ?_) fun m a b c d=>h m (by omega) (by omega) c fun z=>d (by omega)
   by_cases hjk:j<k
   ·exact hs i j hij hjk
   ·have:j=k:=by omega
    subst this
    by_cases hi:i=j
    ·subst hi;exact KeyOrd.kle_refl _
    ·exact KeyOrd.kle_trans (hs i (j - 1) (by omega) (by omega)) hb
theorem oI (hc:Cm key n cmp s) {G:Array Nat×Nat×Nat->Shared->Prop}: ∀ (f:Nat) (p:Array Nat) (k q:Nat),Gd n p->1<=k->k+f<=n->Fal key p k->q+1<=k->(∀ i,k - (q+1)<=i->i<k->PK key p i=PK key p (k - 1))->
  (∀ p' m q',Gd n p'->k<=m->m<=k+f->Fal key p' m->q'+1<=m->(∀ i,m - (q'+1)<=i->i<m->PK key p' i=PK key p' (m - 1))->G (p',m,q') s)->(kas_desc f p k q).kasWp cmp G s
 | 0,p,k,q,g,h1,hf,hs,hq,he,h=>h p k q g (aj _) (aj _) hs hq he
 | f+1,p,k,q,g,h1,hf,hs,hq,he,h=>by
  have gs:=g.size
  refine hc _ _ _ (g.lt (by omega)) (g.lt (by omega)) ?_
  cases hb:O.blt (key (p.getD k 0)) (key (p.getD (k - 1) 0)) with
  | true=>
   have step: ∀ p':Array Nat,(∀ i,PK key p' i=PK key p i)->Fal key p' (k+1):=fun p' hp i j hij hj=>by
    rw [hp,hp]
    by_cases hjk:j<k
    ·exact hs i j hij hjk
    ·have:j=k:=by omega
     subst this
     by_cases hi:i=j
     ·subst hi;exact KeyOrd.kle_refl _
     ·exact KeyOrd.kle_trans (KeyOrd.kle_of_klt hb) (hs i (j - 1) (by omega) (by omega))
   have same: ∀ i,PK key (kas_rev p (k - (q+1)) k) i=PK key p i:=fun i=>by
    rw [qL (by omega)]
    split
    ·rw [he _ (by omega) (by omega),he i (by omega) (by omega)]
    ·rfl
   show KasT.kasWp cmp (if true=true then(if q > 0 then kas_desc f (kas_rev p (k - (q+1)) k) (k+1) 0 else kas_desc f p (k+1) 0) else _) G s
   rw [if_pos rfl]
   split
   ·exact oI hc f _ (k+1) 0 (qM g _ _) (by omega) (by omega) (step _ same) (by omega) (fun i a b=>by rw [show i=k+1 - 1 by omega]) fun p' m q' a b c=>h p' m q' a (by omega) (by omega)
   ·exact oI hc f _ (k+1) 0 g (by omega) (by omega) (step _ fun _=>rfl) (by omega) (fun i a b=>by rw [show i=k+1 - 1 by omega]) fun p' m q' a b c=>h p' m q' a (by omega) (by omega)
  | false=>
   show KasT.kasWp cmp (if false=true then _ else KasT.ask (p.getD (k - 1) 0) (p.getD k 0) fun d=>if d=true then .ret (p,k,q) else kas_desc f p (k+1) (q+1)) G s
   rw [if_neg (by decide)]
   refine hc _ _ _ (g.lt (by omega)) (g.lt (by omega)) ?_
   cases hd:O.blt (key (p.getD (k - 1) 0)) (key (p.getD k 0)) with
   | true=>exact h p k q g (aj _) (by omega) hs hq he
   | false=>
    have eq:PK key p k=PK key p (k - 1):=KeyOrd.kle_antisymm hd hb
    refine oI hc f p (k+1) (q+1) g (by omega) (by omega) (fun i j hij hj=> ?_) (by omega) (fun i a b=> ?_) fun p' m q' a b c=>h p' m q' a (by omega) (by omega)
    ·by_cases hjk:j<k
     ·exact hs i j hij hjk
     ·have:j=k:=by omega
      subst this
      by_cases hi:i=j
      ·subst hi;exact KeyOrd.kle_refl _
      ·rw [eq];exact hs i (j - 1) (by omega) (by omega)
    ·rw [show k+1 - 1=k by omega]
     by_cases hi:i=k
     ·subst hi;rfl
     ·rw [eq];exact he i (by omega) (by omega)
theorem zF (hc:Cm key n cmp s) {p:Array Nat} (g:Gd n p) {k:Nat} (h1:1<=k) (hk:k<=n) (hs:Fal key p k) {G:Nat×Array Nat->Shared->Prop} (h: ∀ m p',Gd n p'->1<=m->m<=n->Srt key p' m->G (m,p') s):(kas_tail3 k n p).kasWp cmp G s:=by
 unfold kas_tail3
 rw [KasT.kasWp_bind]
 have gs:=g.size
 refine zE hc (qM g 0 k) (n - k) k h1 (by omega) (fun i j hij hj=> ?_) fun m a b c _=>h m _ (qM g 0 k) (by omega) (by omega) c
 rw [qL (by omega),qL (by omega),if_pos (by omega),if_pos (by omega)]
 exact hs _ _ (by omega) (by omega)
theorem zG (hc:Cm key n cmp s) {p:Array Nat} (g:Gd n p) {k:Nat} (hk:k+1<=n) (hs:Fal key p (k+1)) {G:Nat×Array Nat->Shared->Prop} (h: ∀ m p',Gd n p'->1<=m->m<=n->Srt key p' m->G (m,p') s):(kas_descPart k n p).kasWp cmp G s:=by
 unfold kas_descPart
 rw [KasT.kasWp_bind]
 refine oI hc _ p (k+1) 0 g (by omega) (by omega) hs (by omega) (fun i a b=>by rw [show i=k+1 - 1 by omega]) fun p' m q' g' a b f' c e=> ?_
 have gs:=g'.size
 dsimp only
 split
 ·refine zF hc (qM g' _ _) (by omega) (by omega) (fun i j hij hj=> ?_) h
  have same: ∀ i,PK key (kas_rev p' (m - (q'+1)) m) i=PK key p' i:=fun i=>by
   rw [qL (by omega)]
   split
   ·rw [e _ (by omega) (by omega),e i (by omega) (by omega)]
   ·rfl
  rw [same,same];exact f' i j hij hj
 ·exact zF hc g' (by omega) (by omega) f' h
theorem aCh (hc:Cm key n cmp s) (hn:1<=n) {p:Array Nat} (g:Gd n p) {G:Nat×Array Nat->Shared->Prop} (h: ∀ m p',Gd n p'->1<=m->m<=n->Srt key p' m->G (m,p') s):(kas_count n p).kasWp cmp G s:=by
 unfold kas_count
 rw [KasT.kasWp_bind]
 have gs:=g.size
 refine zE hc g (n - 1) 1 (aj _) (by omega) (fun i j hij hj=>by rw [show i=j by omega];exact KeyOrd.kle_refl _) fun m h1 h2 hs st=> ?_
 by_cases e:(m==n)=true
 ·rw [if_pos e];exact h m p g h1 (by omega) hs
 rw [if_neg e]
 have hmn:m<n:=by
  have:m≠n:=by simpa using e
  omega
 have hl:=st (by omega)
 by_cases hm:m > 1
 ·rw [if_pos hm]
  refine hc _ _ _ (g.lt (by omega)) (g.lt (by omega)) ?_
  cases hb:O.blt (key (p.getD 0 0)) (key (p.getD (m - 1) 0)) with
  | true=>exact h m p g h1 (by omega) hs
  | false=>
   -- all alike
   have eq: ∀ i,i<m->PK key p i=PK key p (m - 1):=fun i hi=>by
    have a:=hs i (m - 1) (by omega) (by omega)
    have b:O.kle (PK key p (m - 1)) (PK key p 0):=hb
    exact KeyOrd.kle_antisymm a (KeyOrd.kle_trans b (hs 0 i (bq _) hi))
   refine zG hc (qM g 0 m) (by omega) (fun i j hij hj=> ?_) h
   have same: ∀ i,PK key (kas_rev p 0 m) i=PK key p i:=fun i=>by
    rw [qL (by omega)]
    split
    ·rw [eq _ (by omega),eq i (by omega)]
    ·rfl
   rw [same,same]
   by_cases hjm:j<m
   ·rw [eq j hjm,eq i (by omega)];exact KeyOrd.kle_refl _
   ·have:j=m:=by omega
    subst this
    by_cases hi:i=j
    ·subst hi;exact KeyOrd.kle_refl _
    ·rw [eq i (by omega)];exact KeyOrd.kle_of_klt hl
 ·rw [if_neg hm]
  have:m=1:=by omega
  subst this
  refine zG hc g (by omega) (fun i j hij hj=> ?_) h
  by_cases hi:i=j
  ·subst hi;exact KeyOrd.kle_refl _
  ·have h0:i=0:=by omega
   have h1':j=1:=by omega
   subst h0 h1'
   exact KeyOrd.kle_of_klt hl
theorem oJ (hc:Cm key n cmp s) {p:Array Nat} (g:Gd n p) {k:Nat} (hk:k<n) (hs:Srt key p k) {G:Nat->Shared->Prop}: ∀ (f l r:Nat),l<=r->r<=k->r - l<=f->(∀ i,i<l->O.kle (PK key p i) (PK key p k))->(∀ i,r<=i->i<k->O.klt (PK key p k) (PK key p i))->
  (∀ l',l'<=k->(∀ i,i<l'->O.kle (PK key p i) (PK key p k))->(∀ i,l'<=i->i<k->O.klt (PK key p k) (PK key p i))->G l' s)->(kas_place p k f l r).kasWp cmp G s
 | 0,l,r,hlr,hrk,hf,lo,hi,h=>by
  have:l=r:=by omega
  subst this
  exact h l hrk lo hi
 | f+1,l,r,hlr,hrk,hf,lo,hi,h=>by
  unfold kas_place
  split
  ·have:l=r:=by omega
   subst this
   exact h l hrk lo hi
  ·refine hc _ _ _ (g.lt (by omega)) (g.lt (by omega)) ?_
   cases hb:O.blt (key (p.getD k 0)) (key (p.getD ((l+r) / 2) 0)) with
   | true=>
    refine oJ hc g hk hs f l ((l+r) / 2) (by omega) (by omega) (by omega) lo (fun i a b=> ?_) h
    exact KeyOrd.klt_of_klt_of_kle hb (hs _ _ a b)
   | false=>
    refine oJ hc g hk hs f ((l+r) / 2+1) r (by omega) (by omega) (by omega) (fun i a=> ?_) hi h
    exact KeyOrd.kle_trans (hs i ((l+r) / 2) (by omega) (by omega)) hb
theorem aEi (hc:Cm key n cmp s) {G:Array Nat->Shared->Prop} (h: ∀ p',Gd n p'->Srt key p' n->G p' s): ∀ (f:Nat) (p:Array Nat) (k:Nat),Gd n p->k+f=n->Srt key p k->(kas_bin f p k).kasWp cmp G s
 | 0,p,k,g,e,hs=>by
  have:k=n:=by omega
  subst this
  exact h p g hs
 | f+1,p,k,g,e,hs=>by
  unfold kas_bin
  rw [KasT.kasWp_bind]
  have gs:=g.size
  refine oJ hc g (by omega) hs k 0 k (bq _) (aj _) (by omega) (fun i z=>by omega) (fun i a b=>by omega) fun l hl lo hi=> ?_
  refine aEi hc h f _ (k+1) (aLb g k (k - l)) (by omega) fun i j hij hj=> ?_
  have d:k - (k - l)=l:=by omega
  rw [aEh (by omega) (by omega),aEh (by omega) (by omega),d]
  by_cases i1:i=l
  ·rw [if_pos i1]
   by_cases j1:j=l
   ·rw [if_pos j1];exact KeyOrd.kle_refl _
   ·rw [if_neg j1,if_pos (by omega)]
    exact KeyOrd.kle_of_klt (hi _ (by omega) (by omega))
  ·rw [if_neg i1]
   by_cases i2:l<i/\i<=k
   ·rw [if_pos i2,if_neg (by omega),if_pos (by omega)]
    exact hs _ _ (by omega) (by omega)
   ·rw [if_neg i2]
    by_cases j1:j=l
    ·rw [if_pos j1];exact lo i (by omega)
    ·rw [if_neg j1]
     by_cases j2:l<j/\j<=k
     ·rw [if_pos j2];exact hs _ _ (by omega) (by omega)
     ·rw [if_neg j2];exact hs _ _ hij (by omega)
theorem aHc (hc:Cm key n cmp s) (hn:1<=n) {G:Array Nat->Shared->Prop} (h: ∀ p',Gd n p'->Srt key p' n->G p' s):(kas_sort n).kasWp cmp G s:=by
 unfold kas_sort
 rw [KasT.kasWp_bind]
 refine aCh hc hn (Array.Perm.refl _) fun m p g h1 h2 hs=> ?_
 dsimp only
 split
 ·rw [show max m 1=m by omega]
  exact aEi hc h _ p m g (by omega) hs
 ·have:m=n:=by omega
  subst this
  exact h p g hs
end
theorem hW: ∀ a,fI a a=false
 | []=>rfl
 | a::r=>by simp [fI,hW r]
theorem jE: ∀ a b c,fI a b=true->fI b c=true->fI a c=true
 | [],[],_,h,_=>by cases h
 | [],_::_,[],_,h=>by cases h
 | [],_::_,_::_,_,_=>rfl
 | _::_,[],_,h,_=>by cases h
 | _::_,_::_,[],_,h=>by cases h
 | a::r,b::t,c::u,h1,h2=>by
  unfold fI at h1 h2 ⊢
  by_cases ab:a=b
  ·subst ab
   rw [if_pos rfl] at h1
   by_cases ac:a=c
   ·rw [if_pos ac] at h2 ⊢;exact jE r t u h1 h2
   ·rw [if_neg ac] at h2 ⊢;exact h2
  ·rw [if_neg ab] at h1
   have h1:=of_decide_eq_true h1
   by_cases bc:b=c
   ·subst bc;rw [if_neg ab];exact decide_eq_true h1
   ·rw [if_neg bc] at h2
    have h2:=of_decide_eq_true h2
    rw [if_neg (by omega)];exact decide_eq_true (by omega)
theorem oK: ∀ a b c,fI a c=true->fI a b=true\/fI b c=true
 | [],[],[],h=>by cases h
 | [],[],_::_,_=> .inr rfl
 | [],_::_,_,_=> .inl rfl
 | _::_,_,[],h=>by cases h
 | _::_,[],_::_,_=> .inr rfl
 | a::r,b::t,c::u,h=>by
  unfold fI at h ⊢
  by_cases ac:a=c
  ·subst ac
   rw [if_pos rfl] at h
   by_cases ab:a=b
   ·subst ab;rw [if_pos rfl,if_pos rfl];exact oK r t u h
   ·rw [if_neg ab,if_neg (Ne.symm ab)]
    rcases Int.lt_or_gt_of_ne ab with z | z
    ·exact .inl (decide_eq_true z)
    ·exact .inr (decide_eq_true z)
  ·rw [if_neg ac] at h
   have h:=of_decide_eq_true h
   by_cases ab:a=b
   ·subst ab;rw [if_neg ac];exact .inr (decide_eq_true h)
   ·rw [if_neg ab]
    by_cases z:a<b
    ·exact .inl (decide_eq_true z)
    ·rw [if_neg (by omega)];exact .inr (decide_eq_true (by omega))
theorem jF: ∀ a b,fI a b=false->fI b a=false->a=b
 | [],[],_,_=>rfl
 | [],_::_,h,_=>by cases h
 | _::_,[],_,h=>by cases h
 | a::r,b::t,h1,h2=>by
  unfold fI at h1 h2
  by_cases ab:a=b
  ·subst ab
   rw [if_pos rfl] at h1 h2
   rw [jF r t h1 h2]
  ·rw [if_neg ab] at h1
   rw [if_neg (Ne.symm ab)] at h2
   have h1:=of_decide_eq_false h1
   have h2:=of_decide_eq_false h2
   omega
noncomputable def aIn:KeyOrd:=⟨List Int,fI,hW,jE,oK,jF⟩
theorem aHd {a b c:List Int} (h1:fI b a=false) (h2:fI c b=false):fI c a=false:=by
 cases h:fI c a
 ·rfl
 ·rcases oK c b a h with z | z
  ·rw [h2] at z;cases z
  ·rw [h1] at z;cases z
theorem lE (a:D): ∀ l,(wL a l).Perm (a::l)
 | []=>List.Perm.refl _
 | b::r=>by
  unfold wL
  split
  ·exact((lE a r).cons b).trans (List.Perm.swap a b r)
  ·exact List.Perm.refl _
theorem dG: ∀ l,(d8 l).Perm l
 | []=>List.Perm.refl _
 | a::r=>(lE a (d8 r)).trans ((dG r).cons a)
theorem mY (a:D): ∀ {l:List D},l.Pairwise (fun x y=>ltD y x=false)->(wL a l).Pairwise (fun x y=>ltD y x=false)
 | [],_=>List.pairwise_singleton _ _
 | b::r,h=>by
  unfold wL
  have h1:=List.pairwise_cons.mp h
  split
  ·rename_i hab
   refine List.pairwise_cons.mpr ⟨fun c hc=> ?_,mY a h1.2⟩
   rcases aq.mp ((lE a r).mem_iff.mp hc) with rfl | hc
   ·cases z:ltD c b
    ·rfl
    ·have:=jE _ _ _ hab z;rw [hW] at this;cases this
   ·exact h1.1 c hc
  ·rename_i hab
   have hab:ltD b a=false:=by simpa using hab
   refine List.pairwise_cons.mpr ⟨fun c hc=> ?_,h⟩
   rcases aq.mp hc with rfl | hc
   ·exact hab
   ·exact aHd hab (h1.1 c hc)
theorem iA: ∀ l,(d8 l).Pairwise (fun x y=>ltD y x=false)
 | []=>List.Pairwise.nil
 | a::r=>mY a (iA r)
def One (ds:List D):Prop:= ∀ x∈ds, ∀ y∈ds,same x y=true
theorem mZ {l m:List D} (ho:One l) (p:m.Perm l) (h:m.Pairwise (fun x y=>ltD y x=false)):m=d8 l:=
 List.Perm.eq_of_pairwise (fun a b ha hb x y=>oG (ho a (p.mem_iff.mp ha) b ((dG l).mem_iff.mp hb)) (jF _ _ y x)) h (iA l) (p.trans (dG l).symm)
theorem lG {l m:List D} (ho:One l) (p:m.Perm l):d8 m=d8 l:=mZ ho ((dG m).trans p) (iA m)
theorem aEj {n:Nat} {p:Array Nat} {ds:List D} (ho:One ds) (hn:ds.length=n) (g:Gd n p) (st:Srt (O:=aIn) (fun i=>eV (ds.getD i .non)) p n):(p.toList.map fun i=>ds.getD i .non)=d8 ds:=by
 have pe:p.toList.Perm (List.range n):=by
  have:=Array.Perm.toList g
  simpa using this
 refine mZ ho ((pe.map _).trans (List.Perm.of_eq ?_)) ?_
 ·apply List.ext_getElem
  ·simp [hn]
  ·intro i h1 h2
   simp [h2]
 ·rw [List.pairwise_map,List.pairwise_iff_getElem]
  intro i j hi hj hij
  have gs:=g.size
  rw [Array.length_toList,gs] at hi hj
  have:=st i j (Nat.le_of_lt hij) hj
  have e: ∀ k (hk:k<p.size),p.getD k 0=p.toList[k]'(by simpa using hk):=fun k hk=>by simp [Array.getD,hk]
  have r:fI (eV (ds.getD (p.getD j 0) .non)) (eV (ds.getD (p.getD i 0) .non))=false:=this
  rw [e i (by omega),e j (by omega)] at r
  exact r
theorem fS {ds:List D} (h:fL ds=true):One ds/\(∀ d∈ds,iK d=true/\dep d<=8)/\(2<=ds.length-> ∀ d∈ds,eJ d=true):=by
 cases ds with
 | nil=>exact⟨(fun _ h=>nomatch h),(fun _ h=>nomatch h),(fun _ _ h=>nomatch h)⟩
 | cons d r=>
  simp only [fL,au,decide_eq_true_eq,List.all_eq_true] at h
  obtain⟨⟨⟨⟨h1,h2⟩,h3⟩,h4⟩,h5⟩:=h
  have sd: ∀ x∈d::r,same d x=true:=fun x hx=>by
   rcases aq.mp hx with rfl | hx
   ·exact h4
   ·exact h5 x hx
  have tup: ∀ x,same d x=true->iK x=true:=fun x hx=>by
   cases d<;>simp [iK] at h1
   cases x<;>simp [same] at hx
   rfl
  have tupN:eJ d=true-> ∀ x,same d x=true->eJ x=true:=fun hd x hx=>by
   cases d<;>simp [iK] at h1
   rename_i xs
   cases x<;>simp [same] at hx
   rename_i ys
   cases xs with
   | nil=>simp [eJ] at hd
   | cons a xs=>
    cases ys with
    | nil=>simp [a8] at hx
    | cons b ys=>rfl
  refine⟨fun x hx y hy=>zD (sd x hx) (sd y hy),fun x hx=>⟨tup x (sd x hx),by rw [(uL (sd x hx)).2.2];exact h3⟩,fun h2' x hx=> ?_⟩
  have hd:eJ d=true:=by
   rcases(Bool.or_eq_true _ _).mp h2 with q | q
   ·have:r=[]:=by simpa using q
    subst this
    simp at h2'
   ·exact q
  exact tupN hd x (sd x hx)
section
variable {prog:Program} {w:World} {A:Around} {Ex:Value->Shared->Prop} {s:Shared}
mutual
theorem v5 {h h':Heap} (k: ∀ b o,o.cls= .type "tuple"->h.get? b=some o->h'.get? b=some o): ∀ {d:PyData} {v:Value} {as:List Addr},hk d=true->Reads h v d as->Reads h' v d as
 | _,_,_,_, .none=> .none
 | _,_,_,_, .int i t=> .int i t
 | _,_,_,hd, .tuple e c q r=> .tuple (k _ _ c e) c q (bU k (by simpa [hk] using hd) r)
 | _,_,_,hd, .bool _=>by simp [hk] at hd
 | _,_,_,hd, .str _ _=>by simp [hk] at hd
 | _,_,_,hd, .list _ _ _ _=>by simp [hk] at hd
 | _,_,_,hd, .dict _ _ _ _ _=>by simp [hk] at hd
theorem bU {h h':Heap} (k: ∀ b o,o.cls= .type "tuple"->h.get? b=some o->h'.get? b=some o): ∀ {ds:List PyData} {vs:List Value} {as:List Addr},hks ds=true->ReadsAll h vs ds as->ReadsAll h' vs ds as
 | _,_,_,_, .nil=> .nil
 | _,_,_,hd, .cons a b=>by
  simp only [hks,au] at hd
  exact .cons (v5 k hd.1 a) (bU k hd.2 b)
end
theorem uN {n:Nat} {b fin:Bool} {Q:Bool->Shared->Prop} (hu:A.units+n<cLine): ∀ {us vs:List Value} {xs ys:List D} {as bs:List Addr} (i:Nat),ReadsAll s.heap us (aQ xs) as->ReadsAll s.heap vs (aQ ys) bs->a8 xs ys=true->jM xs<=n->((b&&i==0)=true-> ∃ k r,xs= .int k::r)->fin=decide (xs.length<ys.length)->Q (fI (dF xs) (dF ys)) s->KatLex prog w A b fin Q (us.zip vs) i s
 | us,vs,[],[],as,bs,i,ra,rb,hs,hn,hb,hf,h=>by
  simp only [aQ] at ra rb
  cases ra;cases rb
  subst hf;exact h
 | us,vs,[],_::_,as,bs,i,ra,rb,hs,hn,hb,hf,h=>by simp [a8] at hs
 | us,vs,_::_,[],as,bs,i,ra,rb,hs,hn,hb,hf,h=>by simp [a8] at hs
 | us,vs,x::xs,y::ys,as,bs,i,ra,rb,hs,hn,hb,hf,h=>by
  simp only [aQ] at ra rb
  cases ra with
  | @cons u us _ _ a1 a2 ru ra=>
   cases rb with
   | @cons v vs _ _ b1 b2 rv rb=>
    simp only [a8,au] at hs
    simp only [jM] at hn
    obtain⟨s1,s2,s3⟩:=uL hs.1
    have p1:=cS s2
    have p2:=cS s1
    have heq:=SeqAt.eqAt_reads (bJ x) (bJ y) A s u v a1 b1 ru rv (fW p1) (fW p2) (by rw [fX,fX];omega)
    rw [gF x y p1 p2,kB hs.1] at heq
    refine kat_cons (heq prog w _ _ ?_)
    simp only [dF] at h
    rw [oH (iT hs.1)] at h
    by_cases e:eV x=eV y
    ·rw [if_pos e] at h
     rw [e,beq_self_eq_true]
     refine kat_yes (uN hu (i+1) ra rb hs.2 (by omega) (fun z=>by simp at z) ?_ h)
     rw [hf];simp
    ·rw [if_neg e] at h
     rw [show(eV x==eV y)=false by simpa using e]
     refine kat_no ?_
     cases hbi:(b&&i==0) with
     | true=>
      obtain⟨k,r,ex⟩:=hb hbi
      cases ex
      cases y<;>simp [same] at hs
      rename_i k2
      simp only [bJ] at ru rv
      cases ru;cases rv
      have e2:fI (eV (D.int k)) (eV (D.int k2))=decide (k<k2):=by
       have e': ¬ k=k2:=fun z=>e (by rw [z])
       simp only [eV,fI,if_neg e']
      rw [e2] at h
      exact oneLt_int h
     | false=>exact kat_one _ _ (aNv n x y u v a1 b1 A s _ _ hs.1 (by omega) ru rv hu h)
theorem lH (l:List D):(aQ l).length=l.length:=by induction l with | nil=>rfl | cons a l ih=>simp [aQ,ih]
theorem iU {h:Heap}: ∀ {us:List Value} {ds:List D} {as:List Addr} {i:Nat},ReadsAll h us (aQ ds) as->i<ds.length-> ∃ bs,Reads h (us.getD i .none) (bJ (ds.getD i .non)) bs
 | _,[],_,_,_,hi=>by cases hi
 | us,d::ds,as,i,r,hi=>by
  simp only [aQ] at r
  cases r with
  | @cons u us _ _ a1 a2 ru ra=>
   cases i with
   | zero=>exact⟨a1,ru⟩
   | succ i=>exact iU (us:=us) (ds:=ds) ra (by simpa using hi)
theorem qN {h:Heap}: ∀ {vs:List Value} {ds:List D} {as:List Addr},ReadsAll h vs (aQ ds) as->(∀ d∈ds,eJ d=true)-> ∃ fs:List Value,KatTups h vs fs/\fs.length=vs.length/\ ∀ f∈fs, ∃ d∈ds, ∃ x r bs,d= .tup (x::r)/\Reads h f (bJ x) bs
 | _,[],_,r,_=>by
  simp only [aQ] at r
  cases r
  exact⟨[],trivial,rfl,nofun⟩
 | _,d::ds,_,r,hn=>by
  simp only [aQ] at r
  cases r with
  | @cons u us _ _ a1 a2 ru ra=>
   obtain⟨fs,f1,f2,f3⟩:=qN ra fun x hx=>hn x (.tail _ hx)
   have hd:=hn d (.head _)
   cases d<;>simp [eJ] at hd
   rename_i xs
   cases xs with
   | nil=>simp at hd
   | cons x xs=>
    simp only [bJ] at ru
    cases ru with
    | @tuple a o vs n _ _ ho hc hdat rr=>
     simp only [aQ] at rr
     cases hvs:vs.toList with
     | nil=>rw [hvs] at rr;cases rr
     | cons f ft=>
      rw [hvs] at rr
      cases rr with
      | cons rf rt=>
       have h0:vs[0]? =some f:=by rw [<-Array.getElem?_toList,hvs];rfl
       refine⟨f::fs,KatTups.cons ho hc hdat h0 f1,by simp [f2],fun g hg=> ?_⟩
       rcases aq.mp hg with rfl | hg
       ·exact⟨_, .head _,x,xs,_,rfl,rf⟩
       ·obtain⟨d',m,q⟩:=f3 g hg
        exact⟨d', .tail _ m,q⟩
theorem zH {a:Addr} {vs:List Value} {ds:List D} {as:List Addr} {n:Nat} {P:PySem.Fin->Shared->Prop} (hu:A.units+9<cLine) (ho:s.heap.get? a=some (seqObj "list" vs.toArray n)) (hr:ReadsAll s.heap vs (aQ ds) as) (hd:fL ds=true) (h64:vs.length<64)
  (h: ∀ p:Array Nat,Gd vs.length p->Srt (O:=aIn) (fun i=>eV (ds.getD i .non)) p vs.length->P (.done (.ret .none)) { s with heap:=sortedHeap s.heap a vs (List.toArray (p.toList.map fun i=>vs.getD i Value.none)) }):
  wpAny (model prog w) A (Builtin.«list.sort» ⟨[.ref a],[]⟩) P Ex s:=by
 obtain⟨one,tups,tupN⟩:=fS hd
 have hlen:vs.length=ds.length:=by rw [SeqAt.ReadsAll.length _ _ _ hr,lH]
 have hks': ∀ {l:List D},(∀ x∈l,same x x=true)->hks (aQ l)=true:=by
  intro l
  induction l with
  | nil=>intro _;rfl
  | cons x l ih=>intro hl;simp [aQ,hks,lC (hl x (.head _)),ih fun y hy=>hl y (.tail _ hy)]
 rw [list_sort_plain]
 have ha:a<s.heap.objs.size:=ah ho
 refine aa (listItems_at ho rfl (aa (listUpdate_at ho rfl ?_ (by rw [av,sizeLine_eq];omega) (bq _))))
 obtain⟨e1,ho1⟩: ∃ e1,(s.heap.update a (Obj.mapSeq fun _=>(#[]:Array Value))).get? a=some (seqObj "list" #[] e1):=⟨_,get?_update_seq ho fun _=> #[]⟩
 refine aa (seqEpoch_at ho1 rfl (aa (wpAny_newTuple ?_ (by show vs.length<=_;rw [sizeLine_eq];omega))))
 refine aa (wpAny_newList (wpAny_holding ?_) (bq _))
 have ho6:(((s.heap.update a (Obj.mapSeq fun _=> #[])).push (seqObj "tuple" vs.toArray 0)).push (seqObj "list" #[] 0)).get? a=some (seqObj "list" #[] e1):=af _ (af _ ho1)
 have keep: ∀ b o,o.cls= .type "tuple"->s.heap.get? b=some o->(((s.heap.update a (Obj.mapSeq fun _=> #[])).push (seqObj "tuple" vs.toArray 0)).push (seqObj "list" #[] 0)).get? b=some o:=fun b o c e=>by
  have nb:b≠a:=fun z=>by subst z;rw [ho] at e;cases e;simp at c
  exact af _ (af _ ((Heap.get?_update_ne _ _ _ _ nb).trans e))
 have hr6:=bU keep (hks' fun x hx=>one x hx x hx) hr
 show wpAny (model prog w) A _ P Ex { s with heap:=((s.heap.update a (Obj.mapSeq fun _=> #[])).push (seqObj "tuple" vs.toArray 0)).push (seqObj "list" #[] 0) }
 dsimp only
 by_cases h2:vs.toArray.size<2
 ·rw [if_pos h2,if_pos h2]
  refine aa (ae ?_)
  rw [StateT.run_pure]
  refine aa (ae ?_)
  dsimp only
  have hz:(vs.toArray.zip vs.toArray).size=vs.length:=by simp
  have har:arrOf (SortSt.mk' general' (vs.toArray.zip vs.toArray) #[] 7 none)=(List.toArray (List.range vs.length)).map (kas_item (vs.toArray.zip vs.toArray)):=by
   have:=kas_range (vs.toArray.zip vs.toArray)
   rw [hz] at this
   exact this.symm
  have hout:=kat_snds rfl har
  have hsz:((arrOf (SortSt.mk' general' (vs.toArray.zip vs.toArray) #[] 7 none)).map (·.2)).size<=sizeLine+1:=by rw [hout,av,am];simp;rw [sizeLine_eq];omega
  refine aa (seqEpoch_at ho6 rfl (aa (listUpdate_at ho6 rfl ?_ (bq _) hsz)))
  simp only [bne_self_eq_false,ax,if_false]
  have fin:=h (List.toArray (List.range vs.length)) (Array.Perm.refl _) fun i j hij hj=>by
   rw [av] at h2
   rw [show i=j by omega];exact KeyOrd.kle_refl _
  rw [<-hout] at fin
  exact ae fin
 ·rw [if_neg h2,if_neg h2]
  have h2':2<=vs.length:=by rw [av] at h2;omega
  obtain⟨fs,f1,f2,f3⟩:=qN hr6 (tupN (by omega))
  have hd0:0<ds.length:=by omega
  -- the kind of the first things
  obtain⟨T,hT2,hTl,hTi⟩: ∃ T:Value,(T==T)=true/\(∀ v∈fs,Looks (model prog w) (((s.heap.update a (Obj.mapSeq fun _=> #[])).push (seqObj "tuple" vs.toArray 0)).push (seqObj "list" #[] 0)) (typeOf v) T)/\((T != Value.type "tuple")=true-> ∀ d∈ds, ∃ k r,d= .tup (.int k::r)):=by
   obtain⟨d0,hm0⟩: ∃ d0,d0∈ds:=⟨ds[0],List.getElem_mem hd0⟩
   have hN:=tupN (by omega) d0 hm0
   cases d0<;>simp [eJ] at hN
   rename_i xs0
   cases xs0 with
   | nil=>simp at hN
   | cons x0 r0=>
    have sx: ∀ d∈ds, ∀ x r,d= .tup (x::r)->same x0 x=true:=fun d hd x r e=>by
     have:=one _ hm0 d hd
     rw [e] at this
     simp only [same,a8,au] at this
     exact this.1
    have form: ∀ d∈ds, ∃ x r,d= .tup (x::r):=fun d hd=>by
     have hN:=tupN (by omega) d hd
     cases d<;>simp [eJ] at hN
     rename_i xs
     cases xs with
     | nil=>simp at hN
     | cons x r=>exact⟨x,r,rfl⟩
    have x0s:=sx _ hm0 x0 r0 rfl
    cases x0<;>try (simp [same] at x0s;done)
    ·refine⟨.type "int",by decide,fun v hv=> ?_,fun _ d hd=> ?_⟩
     ·obtain⟨d,hd,x,r,bs,e,rx⟩:=f3 v hv
      have:=sx d hd x r e
      cases x<;>simp [same] at this
      simp only [bJ] at rx
      cases rx
      exact Looks.of_pure rfl
     ·obtain⟨x,r,e⟩:=form d hd
      have:=sx d hd x r e
      cases x<;>simp [same] at this
      exact⟨_,_,e⟩
    ·refine⟨.type "tuple",by decide,fun v hv=> ?_,fun z=>by simp at z⟩
     obtain⟨d,hd,x,r,bs,e,rx⟩:=f3 v hv
     have:=sx d hd x r e
     cases x<;>simp [same] at this
     simp only [bJ] at rx
     cases rx with
     | tuple ho' hc' hd' _=>exact fun A Q E s2 k q=>wpAny_typeOf (⟨_,k _ _ ho',hc'⟩:s2.TypeIs (.ref _) "tuple") q
  refine aa (kat_kind (T:=T) f1 (by omega) hTl hT2 ?_)
  have hc:Cm (O:=aIn) (fun i=>eV (ds.getD i .non)) vs.length (kas_ask prog w A (tuples' (T != Value.type "tuple")) vs) { s with heap:=((s.heap.update a (Obj.mapSeq fun _=> #[])).push (seqObj "tuple" vs.toArray 0)).push (seqObj "list" #[] 0) }:=by
   intro i j C hi hj hC
   obtain⟨b1,r1⟩:=iU hr6 (i:=i) (by omega)
   obtain⟨b2,r2⟩:=iU hr6 (i:=j) (by omega)
   have mi:ds.getD i .non∈ds:=by
    have hi':i<ds.length:=by omega
    rw [bu,ba hi',Option.getD_some];exact List.getElem_mem hi'
   have mj:ds.getD j .non∈ds:=by
    have hj':j<ds.length:=by omega
    rw [bu,ba hj',Option.getD_some];exact List.getElem_mem hj'
   have sij:=one _ mi _ mj
   obtain⟨ti,di⟩:=tups _ mi
   have hTi':=fun z=>hTi z _ mi
   have hC':C (fI (eV (ds.getD i .non)) (eV (ds.getD j .non))) _:=hC
   generalize ds.getD i .non=x at r1 sij ti di hTi' hC'
   generalize ds.getD j .non=y at r2 sij hC'
   unfold kas_ask
   cases x<;>try (simp [same] at sij;done)
   ·simp [iK] at ti
   ·cases y<;>simp [same] at sij
    rename_i xs ys
    simp only [bJ] at r1 r2
    generalize vs.getD i Value.none=u at r1
    generalize vs.getD j Value.none=v at r2
    cases r1 with
    | @tuple a1 o1 us n1 _ _ g1 g2 g3 ra=>
     cases r2 with
     | @tuple a2 o2 ws n2 _ _ k1 k2 k3 rb=>
      simp only [dep] at di
      refine kat_lt g1 g3 k1 k3 (uN (n:=8) (by omega) 0 ra rb sij (by omega) (fun z=> ?_) ?_ (by simpa [eV] using hC'))
      ·have z':(T != Value.type "tuple")=true:=by simpa using z
       obtain⟨k,r,e⟩:=hTi' z'
       exact⟨k,r,by cases e;rfl⟩
      ·have l1:=SeqAt.ReadsAll.length _ _ _ ra
       have l2:=SeqAt.ReadsAll.length _ _ _ rb
       rw [lH] at l1 l2
       rw [<-l1, <-l2];simp
  refine aa (wpAny_mono (kat_run (Q:=fun st' s'=> ∃ p:Array Nat,s'={ s with heap:=((s.heap.update a (Obj.mapSeq fun _=> #[])).push (seqObj "tuple" vs.toArray 0)).push (seqObj "list" #[] 0) }/\arrOf st'=p.map (kas_item (vs.toArray.zip vs.toArray))/\failedOf st'=none/\Gd vs.length p/\Srt (O:=aIn) (fun i=>eV (ds.getD i .non)) p vs.length)
   (G:=fun p s'=>s'={ s with heap:=((s.heap.update a (Obj.mapSeq fun _=> #[])).push (seqObj "tuple" vs.toArray 0)).push (seqObj "list" #[] 0) }/\Gd vs.length p/\Srt (O:=aIn) (fun i=>eV (ds.getD i .non)) p vs.length)
   rfl h2' h64 (fun p st' s' a1 a2 a3 a4=>⟨p,a4.1,a2,a3,a4.2⟩) (aHc hc (by omega) fun p g st=>⟨rfl,g,st⟩)) ?_ fun _ _ e=>e)
  rintro⟨⟨⟩,st'⟩ s' ⟨p,rfl,har,hf,g,st⟩
  dsimp only
  have hout:=kat_snds rfl har
  have hsz:(List.toArray (p.toList.map fun i=>vs.getD i Value.none)).size=vs.length:=by rw [av,am,Array.length_toList,g.size]
  rw [hout]
  refine aa (seqEpoch_at ho6 rfl (aa (listUpdate_at ho6 rfl ?_ (bq _) (by rw [hsz,sizeLine_eq];omega))))
  rw [hf]
  simp only [bne_self_eq_false,ax,if_false]
  exact ae (h p g st)
theorem lI {l:Addr} {Cd:List Value->Heap->Nat->Prop} {Q:Value->Shared->Prop} (hu:A.units+11<cLine)
  (hcol: ∀ Q':List Value->Shared->Prop,(∀ vs h1 tk,Cd vs h1 tk->Q' vs { s with heap:=h1,toks:=tk })->wpAny (model prog w) A.in1 (collect (.ref l)) Q' Ex s)
  (h: ∀ vs h1 tk,Cd vs h1 tk-> ∃ ds as,ReadsAll h1 vs (aQ ds) as/\fL ds=true/\vs.length<64/\
   ∀ (h':Heap) (p:Array Nat) (e:Nat),(∀ b o,h1.get? b=some o->h'.get? b=some o)->h'.get? h1.objs.size=some (seqObj "list" (List.toArray (p.toList.map fun i=>vs.getD i Value.none)) e)->Gd vs.length p->Srt (O:=aIn) (fun i=>eV (ds.getD i .non)) p vs.length->Q (.ref h1.objs.size) { s with heap:=h',toks:=tk }):
  wpAny (model prog w) A (call (.builtin "sorted") [.ref l]) Q Ex s:=by
 refine Calls.call_function_entry kind_sorted plain_sorted entry_sorted (args_sorted1 _) ?_
 unfold Builtin.«sorted»
 refine aa (m:=checkCount "sorted" 1 1 _) (ae ?_)
 refine aa (hcol _ fun vs h1 tk hC=> ?_)
 obtain⟨ds,as,hr,hd,h64,hQ⟩:=h vs h1 tk hC
 refine aa (wpAny_newList ?_ (by rw [sizeLine_eq];first | omega | (simp;omega)))
 have hoL:(h1.push (seqObj "list" vs.toArray 0)).get? h1.objs.size=some (seqObj "list" vs.toArray 0):=ag _ rfl
 have hks':hks (aQ ds)=true:=by
  obtain⟨one,_,_⟩:=fS hd
  have: ∀ l:List D,(∀ x∈l,same x x=true)->hks (aQ l)=true:=fun l=>by
   induction l with
   | nil=>intro _;rfl
   | cons x l ih=>intro hl;simp [aQ,hks,lC (hl x (.head _)),ih fun y hy=>hl y (.tail _ hy)]
  exact this ds fun x hx=>one x hx x hx
 show wpAny _ _ _ _ _ { s with heap:=h1.push (seqObj "list" vs.toArray 0),toks:=tk }
 refine aa (wpAny_holding (wpAny_call_entry slot_list_sort ⟨_,hoL,rfl⟩ entry_list_sort (zH (by have:=A.in1_units;have:=A.in1.in1_units;omega) hoL (bU (fun b o _ e=>af _ e) hks' hr) hd h64 fun p a1 a2=>⟨_,rfl, ?_⟩) (args_list_sort _)))
 obtain⟨e,he⟩:=sortedHeap_at (out:=List.toArray (p.toList.map fun i=>vs.getD i Value.none)) hoL
 refine ae ⟨_,rfl,hQ _ p e (fun b o' q1=> ?_) he a1 a2⟩
 have lt:b<h1.objs.size:=ah q1
 rw [sortedHeap_old (bg lt) (by rw [ai];exact Nat.lt_succ_of_lt lt),Heap.get?_push_ne _ _ _ (bg lt)]
 exact q1
end
section
variable {prog:Program} {w:World} {A:Around} {I:Addr} {fp wr:List Addr} {G:Array GenState->Array GenState->Prop} {n:Nat} {P:Nat->Value->Prop} {St:Nat->Shared->Prop} {E:Value->Shared->Prop} {s:Shared} {R:_->Shared->Prop}
end
section
variable {X:Cx} {ad:Ad} {G:Hp}
theorem lJ {ds:List D} {vs:List V} (h:aG X.K ad G ds vs): ∀ {l:List Nat},(∀ i∈l,i<ds.length)->aG X.K ad G (l.map fun i=>ds.getD i .non) (l.map fun i=>vs.getD i .non)
 | [],_=>aG.nil
 | i::l,hl=>by
  have hi:=hl i (.head _)
  obtain⟨v,e,r⟩:=h.get (ba hi)
  refine aG.cons ?_ (lJ h fun j hj=>hl j (.tail _ hj))
  have e1:ds.getD i .non=ds[i]:=by simp [hi]
  have e2:vs.getD i .non=v:=by simp [e]
  show Rep X.K ad G (ds.getD i .non) (vs.getD i .non)
  rw [e1,e2];exact r
theorem lK {vs:List V} {us:List Value} (h:bI vs us): ∀ {l:List Nat},(∀ i∈l,i<vs.length)->bI (l.map fun i=>vs.getD i .non) (l.map fun i=>us.getD i .none)
 | [],_=> .nil
 | i::l,hl=>by
  have hi:=hl i (.head _)
  obtain⟨u,e,r⟩:=h.get (ba hi)
  refine .cons ?_ (lK h fun j hj=>hl j (.tail _ hj))
  have e1:vs.getD i .non=vs[i]:=by simp [hi]
  have e2:us.getD i .none=u:=by simp [e]
  show b9 (vs.getD i .non) (us.getD i .none)
  rw [e1,e2];exact r
theorem zI {ds:List D} (hd:fL ds=true):hks (aQ ds)=true:=by
 obtain⟨one,_,_⟩:=fS hd
 have: ∀ l:List D,(∀ x∈l,same x x=true)->hks (aQ l)=true:=fun l=>by
  induction l with
  | nil=>intro _;rfl
  | cons x l ih=>intro hl;simp [aQ,hks,lC (hl x (.head _)),ih fun y hy=>hl y (.tail _ hy)]
 exact this ds fun x hx=>one x hx x hx
theorem qO {ds:List D} (hd:fL ds=true):aH ds=true:=by
 obtain⟨one,_,_⟩:=fS hd
 have: ∀ l:List D,(∀ x∈l,same x x=true)->aH l=true:=fun l=>by
  induction l with
  | nil=>intro _;rfl
  | cons x l ih=>intro hl;simp [aH,cS (hl x (.head _)),ih fun y hy=>hl y (.tail _ hy)]
 exact this ds fun x hx=>one x hx x hx
theorem v6 (hu:X.A.units+62<cLine) {pins:List (Addr×Obj)} {s:Shared} {σ:St} {H:Hp} {x:D} {v:V} {u:Value} {Q:VK} {E:Nat->Hp->Prop} {ds:List D} (I:Inv X pins σ H s) (hG:Same G H) (q:Seq X ad G H x v) (ru:b9 v u) (e1:items x=some ds) (hr:RK X.K ad G H (iL ds) Q E):
  wpAny (model X.prog X.w) X.A (call (.builtin "sorted") [u]) (EP X pins σ Q) X.xe s:=by
 unfold iL at hr
 by_cases hb:(fL ds&&decide (ds.length<64))=true
 ·rw [if_pos hb] at hr
  rw [au,decide_eq_true_eq] at hb
  obtain⟨hd,h64⟩:=hb
  obtain⟨p,vs,rfl,hq,rq⟩:=q.items hG e1
  cases (show u=Value.ref p from ru)
  obtain⟨T,o,its,n,hT,h1,h2,h3,hv⟩: ∃ T o its n,(T="list"\/T="tuple")/\s.heap.get? p=some o/\o.cls= .type T/\o.data= .seq (List.toArray its) n/\bI vs its:=by
   rcases hq with z | z
   ·obtain⟨its,rv,⟨o,a,b,n,c⟩,_⟩:=I.tuple z.2
    exact⟨"tuple",o,its,n, .inr rfl,a,b,c,rv⟩
   ·obtain⟨its,rv,pl,_⟩:=I.list z.2
    obtain⟨o,a,b,n,c⟩:=pl.isList
    exact⟨"list",o,its,n, .inl rfl,a,b,c,rv⟩
  have l1:=rq.length
  have l2:=hv.length
  obtain⟨as,ra⟩:=d9 I hG (qO hd) rq hv
  have hz:its.toArray.size<=sizeLine:=by rw [sizeLine_eq];simp;omega
  refine lI (Cd:=fun vs' h1 tk=>vs'=its/\(∀ b o,s.heap.get? b=some o->h1.get? b=some o)/\tk=s.toks) (by omega) (fun Q' hQ'=>wpAny_collect_seq (hsz:=hz) p hT h1 h2 h3 fun g1 k1=>hQ' _ g1 s.toks ⟨rfl,k1,rfl⟩) ?_
  rintro vs' g1 tk ⟨rfl,k1,rfl⟩
  refine⟨ds,as,bU (fun b o _ e=>k1 b o e) (zI hd) ra,hd,by omega,fun g2 pm e k2 at' gd st=> ?_⟩
  have I1:Inv X pins σ H { s with heap:=g1 }:=I.kept (t':=s.toks) k1
  have gs:=gd.size
  have lt: ∀ i∈pm.toList,i<vs.length:=fun i hi=>by
   have:=(Array.Perm.mem_iff gd).mp (Array.mem_def.mpr hi)
   have:i<vs'.length:=by simpa using this
   omega
  have hz:(pm.toList.map fun i=>vs.getD i V.non).length<=sizeLine:=by rw [am,Array.length_toList,gs,sizeLine_eq];omega
  refine⟨.ref g1.objs.size,_,I1.laid (t':=s.toks) k2 (aj _) (show ObjOk X.prog X.w _ g2 _ (.lst _) from⟨hz,_,e,lK hv lt,at'⟩),rfl,hr.ow_new hG ?_ (I1.hok.fresh (aj _))⟩
  have hd':=lJ rq (l:=pm.toList) fun i hi=>by rw [<-l1];exact lt i hi
  rw [<-aEj (n:=vs'.length) (fS hd).1 (by omega) gd st]
  exact hd'
 ·rw [if_neg hb] at hr
  exact hr.elim
theorem v7 (hu:X.A.units+62<cLine):BOp X ad (.builtin "sorted") fM:=by
 intro pins s σ H G x v u Q E I hG q ru hr
 have hr':RK X.K ad G H (match items x with | some ds=>tH ds | none=> .bad) Q E:=hr
 cases e1:items x with
 | none=>rw [e1] at hr';exact hr'.elim
 | some ds=>
  rw [e1] at hr'
  exact v6 hu I hG q ru e1 hr'
end
theorem aHe (l:List D): ∀ acc:List D,acc.length<=(l.foldl jY acc).length:=by
 induction l with
 | nil=>intro acc;exact aj _
 | cons d l ih=>
  intro acc
  refine Nat.le_trans ?_ (ih (jY acc d))
  unfold jY
  split<;>simp
theorem aLc (l:List D): ∀ acc:List D,(l.foldl jY acc).length<=acc.length+l.length:=by
 induction l with
 | nil=>intro acc;exact aj _
 | cons d l ih=>
  intro acc
  refine Nat.le_trans (ih (jY acc d)) ?_
  unfold jY
  split<;>simp<;>omega
theorem aHf (ds:List D) {i:Nat} (hi:i<ds.length):ddD (ds.take (i+1))=jY (ddD (ds.take i)) ds[i]:=by
 unfold ddD
 rw [<-List.take_append_getElem hi,List.foldl_append]
 rfl
theorem aNw (ds:List D) (i:Nat):(ddD (ds.take i)).length<=(ddD ds).length:=by
 have:ddD ds=(ds.drop i).foldl jY (ddD (ds.take i)):=by
  unfold ddD
  rw [<-List.foldl_append,List.take_append_drop]
 rw [this]
 exact aHe _ _
def aHg (w:World) (h:Heap) (S:Addr) (us:List Value) (ds:List D) (i:Nat):Prop:=
 ∃ (L:Ln) (m mv ep:Nat) (ks:List Nat),h.get? S=some (aLa L m mv ep (!w.params.followText "set-order"))/\TI m L/\Ms m/\L.length * 5<m * 3/\(∀ k∈ks,k<i)/\ks.map (fun k=>ds.getD k .non)=ddD (ds.take i)/\(L.map (·.2)).Perm (ks.map fun k=>(hsh (bJ (ds.getD k .non)),us.getD k Value.none))
theorem aHg.kept {w:World} {h h':Heap} {S:Addr} {us:List Value} {ds:List D} {i:Nat} (q:aHg w h S us ds i) (k: ∀ o,h.get? S=some o->h'.get? S=some o):aHg w h' S us ds i:=by
 obtain⟨L,m,mv,ep,ks,ho,r⟩:=q
 exact⟨L,m,mv,ep,ks,k _ ho,r⟩
section
variable {prog:Program} {w:World} {A:Around} {E:Value->Shared->Prop} {s:Shared}
theorem zJ {I S:Addr} {fp wr:List Addr} {G:Array GenState->Array GenState->Prop} {St:Nat->Shared->Prop} {items:Array Value} {ds:List D} {as:List Addr} {h0:Heap} {R:Result->Shared->Prop} (hu:A.units+20<cLine)
  (W:WalksS prog w A.in1 I fp wr G items.size (fun i v=>items[i]? =some v) St) (hSf:S∉fp) (hr0:ReadsAll h0 items.toList (aQ ds) as) (hd:fL ds=true) (h64:(ddD ds).length<64) (hold: ∀ b o,h0.get? b=some o->b∉S::wr):
  ∀ (k i:Nat) (s:Shared),items.size - i=k->i<=items.size->St i s->(∀ b o,h0.get? b=some o->s.heap.get? b=some o)->aHg w s.heap S items.toList ds i->
   (∀ s',Moved (S::wr) G s s'->aHg w s'.heap S items.toList ds ds.length->R (.ok (.ret .none)) s')->
   codeAny (model prog w) A (.builtin "set.update.loop" ⟨[.ref S, .ref I],[]⟩) R s:=by
 have hSw:S∉wr:=fun h=>hSf (W.sub _ h)
 have sub: ∀ b∈wr,b∈S::wr:=fun b hb=> .tail _ hb
 have len:items.size=ds.length:=by
  have:=SeqAt.ReadsAll.length _ _ _ hr0
  rw [lH] at this
  simpa using this
 obtain⟨one,tups,_⟩:=fS hd
 have mem: ∀ i,i<ds.length->ds.getD i .non∈ds:=fun i hi=>by
  rw [bu,ba hi,Option.getD_some];exact List.getElem_mem hi
 have key: ∀ (h:Heap),(∀ b o,h0.get? b=some o->h.get? b=some o)-> ∀ j,j<ds.length->Key h (bJ (ds.getD j .non)) (items.toList.getD j Value.none):=fun h hk' j hj=>by
  obtain⟨bs,r⟩:=iU (bU (fun b o _ e=>hk' b o e) (zI hd) hr0) hj
  have m:=mem j hj
  have sm:=one _ m _ m
  refine⟨?_,lC sm,by rw [fX];exact(tups _ m).2,bs,r⟩
  have t:=(tups _ m).1
  cases hq:ds.getD j .non<;>rw [hq] at t<;>simp [iK] at t
  rw [hq] at r
  simp only [bJ] at r
  generalize items.toList.getD j Value.none=v at r
  cases r
  exact⟨_,rfl⟩
 intro k
 induction k with
 | zero=>
  intro i s hk hi hst hJ hS hR
  have hin:i=items.size:=by omega
  subst hin
  refine codeAny_builtin F.entry_set_update_loop ?_
  rw [Around.under_plainId F.plain_set_update_loop _]
  show wpAny _ A.in1 (pyNext (.ref I) >>= _) _ _ s
  refine aa (W.done s _ _ hst fun s' hm=> ?_)
  rw [len] at hS
  show wpAny _ A.in1 (ret Value.none) _ _ s'
  exact ae (hR s' (hm.mono sub) (hS.kept fun o e=>hm.heap S o hSw e))
 | succ k ih=>
  intro i s hk hi hst hJ hS hR
  have hlt:i<items.size:=by omega
  have hin:i<ds.length:=by omega
  refine codeAny_builtin F.entry_set_update_loop ?_
  rw [Around.under_plainId F.plain_set_update_loop _]
  show wpAny _ A.in1 (pyNext (.ref I) >>= _) _ _ s
  refine aa (W.item i s _ _ hlt hst fun v s' hP hst' hm=> ?_)
  have hJ': ∀ b o,h0.get? b=some o->s'.heap.get? b=some o:=fun b o e=>hm.heap b o (fun z=>hold b o e (sub _ z)) (hJ b o e)
  have hS':=hS.kept fun o e=>hm.heap S o hSw e
  have ev:items.toList.getD i Value.none=v:=by
   rw [bu,Array.getElem?_toList,show items[i]? =some v from hP];rfl
  have kv:=key s'.heap hJ' i hin
  rw [ev] at kv
  obtain⟨⟨x,rfl⟩,k2,k3,bs,k4⟩:=id kv
  show wpAny _ A.in1 (holding [Value.ref x] (setAdd S (.ref x)) >>= _) _ _ s'
  refine aa (wpAny_holding ?_)
  unfold setAdd
  refine wpAny_holding ?_
  refine aa (aG9 8 _ _ bs _ _ _ _ k2 k3 k4 (by have:=A.in1_units;omega) fun tk ht=> ?_)
  obtain⟨L,m,mv,ep,ks,ho,hT,hm',hl,kl,kd,kp⟩:=hS'
  have lenL:L.length=(ddD (ds.take i)).length:=by
   have h1:=kp.length_eq
   have h2:=congrArg List.length kd
   simp only [am] at h1 h2
   omega
  have le64:=aNw ds i
  have mE: ∀ e∈L, ∃ j∈ks,e.2=(hsh (bJ (ds.getD j .non)),items.toList.getD j Value.none):=fun e he=>by
   obtain⟨j,j1,j2⟩:=ao.mp (kp.mem_iff.mp (ao.mpr ⟨e,he,rfl⟩))
   exact⟨j,j1,j2.symm⟩
  have uniq: ∀ {v:Value} {d1 d2:PyData},Key s'.heap d1 v->Key s'.heap d2 v->d1=d2:=fun {v d1 d2} q1 q2=>by
   obtain⟨_,a1,_,b1,c1⟩:=q1
   obtain⟨_,a2,_,b2,c2⟩:=q2
   exact SeqAt.Reads.unique d1 d2 v b1 b2 (y9 _ a1) c1 c2
  have deqE: ∀ j,j<ds.length->PyData.eqv (bJ (ds.getD j .non)) (bJ (ds.getD i .non))=deq (ds.getD j .non) (ds.getD i .non):=fun j hj=>by
   have mj:=mem j hj
   have mi:=mem i hin
   exact gF _ _ (cS (one _ mj _ mj)) (cS (one _ mi _ mi))
  have ei:ds.getD i .non=ds[i]:=by simp [hin]
  have e2:=aHf ds hin
  refine aHb (s:={ s' with toks:=tk }) (d:=bJ (ds.getD i .non)) (by have:=A.in1_units;omega) ho hT hm' hl (by omega) kv (fun e he=> ?_) (fun⟨e,he,d',q1,q2⟩=> ?_) fun hno h' L' m2 mv2 ep2 hsb ho2 T2 M2 l2 pm=> ?_
  ·obtain⟨j,j1,j2⟩:=mE e he
   have hj:=kl j j1
   refine⟨bJ (ds.getD j .non), ?_,by rw [j2]⟩
   rw [j2];exact key s'.heap hJ' j (by omega)
  ·-- there already
   obtain⟨j,j1,j2⟩:=mE e he
   have hj:=kl j j1
   have ed:d'=bJ (ds.getD j .non):=by
    have:=key s'.heap hJ' j (by omega)
    rw [j2] at q1
    exact uniq q1 this
   rw [ed,deqE j (by omega)] at q2
   have hany:(ddD (ds.take i)).any (fun e=>deq e ds[i])=true:=by
    rw [<-kd,List.any_map,List.any_eq_true]
    exact⟨j,j1,by rw [<-ei];exact q2⟩
   unfold jY at e2
   rw [if_pos hany] at e2
   refine ae ⟨plainId_quiet F.plain_set_update_loop _,ih (i+1) _ (by omega) hlt (W.frame _ s' _ _ hst' ht fun b hb o e=>e) hJ' ⟨L,m,mv,ep,ks,ho,hT,hm',hl,fun k hk=>Nat.lt_succ_of_lt (kl k hk),by rw [e2];exact kd,kp⟩ fun s'' hm'' hS''=> ?_⟩
   exact hR s'' (Moved.trans W.gtrans ((hm.mono sub).then_heap ht fun b o hb e=>e) hm'') hS''
  ·-- new
   have hany: ¬ (ddD (ds.take i)).any (fun e=>deq e ds[i])=true:=fun z=>by
    rw [<-kd,List.any_map,List.any_eq_true] at z
    obtain⟨j,j1,j2⟩:=z
    have hj:=kl j j1
    obtain⟨e,he,ee⟩:=ao.mp (kp.mem_iff.mpr (ao.mpr ⟨j,j1,rfl⟩))
    have:=hno e he (bJ (ds.getD j .non)) (by rw [ee];exact key s'.heap hJ' j (by omega))
    rw [deqE j (by omega),ei] at this
    have j2':deq (ds.getD j .non) ds[i]=true:=j2
    rw [this] at j2';cases j2'
   unfold jY at e2
   rw [if_neg hany] at e2
   have hne: ∀ {b:Addr},b∉S::wr->b≠S:=fun hb z=>hb (by rw [z];exact .head _)
   refine ae ⟨plainId_quiet F.plain_set_update_loop _,ih (i+1) _ (by omega) hlt (W.frame _ s' _ _ hst' ht fun b hb o e=> ?_) (fun b o e=> ?_) ⟨L',m2,mv2,ep2,ks++[i],ho2,T2,M2,l2,fun k hk=> ?_, ?_, ?_⟩ fun s'' hm'' hS''=> ?_⟩
   ·rw [hsb.2 b (fun z:b=S=>hSf (by rw [<-z];exact hb))];exact e
   ·exact(hsb.2 b (hne (hold b o e))).trans (hJ' b o e)
   ·rcases List.mem_append.mp hk with hk | hk
    ·exact Nat.lt_succ_of_lt (kl k hk)
    ·have:k=i:=by simpa using hk
     omega
   ·rw [List.map_append,kd,e2]
    simp [hin]
   ·refine pm.trans ?_
    rw [List.map_append]
    refine((kp.cons _).trans ?_).trans (List.perm_append_singleton _ _).symm
    simp only [ev]
    exact List.Perm.refl _
   ·refine hR s'' (Moved.trans W.gtrans ((hm.mono sub).then_heap ht fun b o hb e=> ?_) hm'') hS''
    rw [hsb.2 b (hne hb)];exact e
theorem zK {l:Addr} {items:Array Value} {ds:List D} {as:List Addr} {Q:Value->Shared->Prop} (hu:A.units+40<cLine) (hh:A.handled=none) (hl:s.heap.IsList l items) (hr0:ReadsAll s.heap items.toList (aQ ds) as) (hd:fL ds=true) (h64:(ddD ds).length<64)
  (h: ∀ (h':Heap) (tk:Nat),aHg w h' s.heap.objs.size items.toList ds ds.length->(∀ b o,b<s.heap.objs.size->s.heap.get? b=some o->h'.get? b=some o)->s.toks<=tk->Q (.ref s.heap.objs.size) { s with heap:=h',toks:=tk }):
  wpAny (model prog w) A (call (.type "set") [.ref l]) Q E s:=by
 obtain⟨c,tl,hmro⟩:=PySem.F.called_set.mro
 have hmade:=PySem.F.called_set.made
 have hsub:=PySem.F.called_set.sub
 refine wpAny_call (codeAny_of_tree ?_)
 show wpAny _ _ (callAny (.type "set") _) _ _ _
 refine ae ⟨Code.quiet_builtin _ (by decide+kernel),codeAny_builtin PySem.F.entry_type_call ?_⟩
 rw [Around.under_plain (weight_type_call_type "set" [.ref l] []) rfl]
 have h1:=PySem.F.called_set.notType
 have h2:=PySem.F.called_set.canCreate
 have hct:=PySem.F.typeCall_set_1 (.ref l)
 repeat (any_goals (first | assumption | wp_step))
 refine codeAny_mono (aCc (.ref l) (E:=E) (Q:=fun obj s₁=>obj= .ref s.heap.objs.size/\s₁={ s with heap:=s.heap.push (gG w) }) ⟨rfl,rfl⟩) fun r s₁ hr=> ?_
 cases r with
 | error e=>exact hr
 | ok fl=>
  cases fl with
  | ret obj=>
   obtain⟨rfl,rfl⟩:=hr
   have hS:(s.heap.push (gG w)).get? s.heap.objs.size=some (gG w):=ag _ rfl
   have hT:Shared.TypeIs { s with heap:=s.heap.push (gG w) } (.ref s.heap.objs.size) "set":=⟨_,hS,rfl⟩
   have hli:=PySem.F.called_set.init.lookup
   have hbi:=PySem.F.called_set.init.bind (.ref s.heap.objs.size)
   repeat (any_goals (first | assumption | wp_step))
   refine codeAny_mono (codeAny_call_builtin (R:=wants (fun r s₂=>r= .none/\ ∃ h' tk,s₂={ s with heap:=h',toks:=tk }/\aHg w h' s.heap.objs.size items.toList ds ds.length/\
     (∀ b o,b<s.heap.objs.size->s.heap.get? b=some o->h'.get? b=some o)/\s.toks<=tk) E) PySem.F.called_set.init.plain PySem.F.entry_set_init (check_set_init_1 hT ?_)) fun r₂ s₂ hr₂=> ?_
   ·obtain⟨ol,hol,hcl,nl,hdl⟩:=hl
    obtain⟨ocls,odict,odata,oslots⟩:=ol
    simp only at hcl hdl
    subst hcl;subst hdl
    have hol':(s.heap.push (gG w)).get? l=some { cls:= .type "list",dict:=odict,data:= .seq items nl,slots:=oslots }:=af _ hol
    have hsls:=PySem.F.sub_list_set
    have hslf:=PySem.F.sub_list_frozenset
    have hne:(Value.type "list"==Value.type "dict")=false:=by decide
    have hl1:(s.heap.push (gG w)).IsList l items:=⟨_,hol',rfl,nl,rfl⟩
    unfold gG fY at hol' hS hT hl1 ⊢
    unfold Builtin.«set.__init__» noKeywords Builtin.Frozenset.updateFrom
    generalize hPI:pyIter=PI
    wp_walk
    subst hPI
    refine wpAny_pyIter_list hl1 ?_
    refine aa (wpAny_runValue ?_)
    have hlS:l<s.heap.objs.size:=ah hol
    have hh3:A.in1.in1.in1.handled=none:=by simp [hh]
    generalize hH:s.heap.push _=H at hol' hS hT hl1 ⊢
    have hHs:H.objs.size=s.heap.objs.size+1:=by rw [<-hH,ai]
    have hneI:l≠H.objs.size:=by rw [hHs];exact bg (Nat.lt_succ_of_lt hlS)
    have hSf:s.heap.objs.size∉[H.objs.size,l]:=by
     rw [hHs];simp only [aq,List.not_mem_nil,or_false,not_or]
     exact⟨bg (Nat.lt_succ_self _),Nat.ne_of_gt hlS⟩
    refine zJ (by have:=A.in1_units;have:=A.in1.in1_units;have:=A.in1.in1.in1_units;omega) ((Walks.list hh3 _ l hneI items).toS) hSf hr0 hd h64 (fun b o e=> ?_) (items.size - 0) 0 _ (by omega) (bq _) ⟨⟨_,ag _ rfl,rfl,rfl⟩,(hl1.push _)⟩ (fun b o e=> ?_) ?_ ?_
    ·have hb:=ah e
     simp only [aq,List.not_mem_nil,or_false,not_or]
     exact⟨bg hb,by rw [hHs];exact bg (Nat.lt_succ_of_lt hb)⟩
    ·refine af _ ?_
     rw [<-hH]
     exact af _ e
    ·refine⟨[],7,0,0,[],af _ hS,⟨List.Pairwise.nil,nofun,nofun⟩, .inl rfl,by decide,nofun,rfl,List.Perm.refl _⟩
    ·intro s' hm hS'
     obtain⟨h',g',d',tk',os'⟩:=s'
     have eg:g'=s.gens:=hm.gens
     have ed:d'=s.drawn:=hm.drawn
     have eo:os'=s.os:=hm.os
     subst eg;subst ed;subst eo
     show wpAny _ _ _ _ _ _
     refine ae ?_
     show wpAny _ _ (ret Value.none) _ _ _
     refine ae ⟨rfl,h',tk',rfl,hS',fun b o hb e=> ?_,hm.toks⟩
     have hb1:b≠s.heap.objs.size:=bg hb
     have hb2:b≠H.objs.size:=by rw [hHs];exact bg (Nat.lt_succ_of_lt hb)
     refine hm.heap b o (by simp only [aq,List.not_mem_nil,or_false,not_or];exact⟨hb1,hb2⟩) (af _ ?_)
     rw [<-hH]
     exact af _ e
   ·cases r₂ with
    | error e=>exact hr₂
    | ok fl₂=>
     cases fl₂ with
     | ret r=>
      obtain⟨rfl,h',tk,rfl,hS',hk',ht'⟩:=hr₂
      repeat (any_goals (first | assumption | wp_step))
      exact h _ _ hS' hk' ht'
     | _=>exact hr₂.elim
  | _=>exact hr.elim
end
theorem zL {α:Type} {ks:List Nat} {f:Nat->α} {vs:List α} (h:vs.Perm (ks.map f)): ∃ js:List Nat,js.Perm ks/\vs=js.map f:=by
 induction ks generalizing vs with
 | nil=>
  have:vs=[]:=List.Perm.eq_nil h
  exact⟨[],List.Perm.refl _,this⟩
 | cons k ks ih=>
  obtain⟨a,b,rfl⟩:=List.append_of_mem (h.mem_iff.mpr (ao.mpr ⟨k, .head _,rfl⟩))
  have h':(a++b).Perm (ks.map f):=by
   have:=List.perm_middle.symm.trans h
   rw [List.map_cons] at this
   exact this.cons_inv
  obtain⟨js,p,e⟩:=ih h'
  refine⟨js.take a.length++k::js.drop a.length,List.perm_middle.trans ((List.Perm.of_eq (by rw [List.take_append_drop])).trans p |>.cons k), ?_⟩
  rw [List.map_append,List.map_cons,List.map_take,List.map_drop, <-e]
  simp
theorem aLd (l:List D): ∀ acc:List D, ∀ x∈l.foldl jY acc,x∈acc\/x∈l:=by
 induction l with
 | nil=>intro acc x h;exact .inl h
 | cons d l ih=>
  intro acc x h
  rcases ih _ x h with z | z
  ·unfold jY at z
   split at z
   ·exact .inl z
   ·rcases List.mem_append.mp z with z | z
    ·exact .inl z
    ·exact .inr (by have:x=d:=by simpa using z
                    rw [this];exact .head _)
  ·exact .inr (.tail _ z)
section
variable {X:Cx} {ad:Ad} {a:Expr} {f:F} {p p2 pos pos2:Pos}
theorem zM {pins:List (Addr×Obj)} {s1:Shared} {σ:St} {H1 G1:Hp} {u:Value} {v:V} {ds:List D} {Q:VK} {E:Nat->Hp->Prop} {Ex:Value->Shared->Prop} (hh:X.A.handled=none) (hu:X.A.units+62<cLine) (I1:Inv X pins σ H1 s1) (hG:Same G1 H1) (q:Seq X ad G1 H1 (.lst ds) v) (ru:b9 v u) (k:RK X.K ad G1 H1 (aJv ds) Q E):
  wpAny (model X.prog X.w) X.A (call (.type "set") [u]) (fun t s2=>wpAny (model X.prog X.w) X.A (call (.builtin "sorted") [t]) (EP X pins σ Q) X.xe s2) Ex s1:=by
 unfold aJv at k
 by_cases hb:(fL ds&&decide ((ddD ds).length<64))=true
 ·rw [if_pos hb] at k
  rw [au,decide_eq_true_eq] at hb
  obtain⟨hd,h64⟩:=hb
  obtain⟨b,vs,rfl,hq,rq⟩:=q.items hG rfl
  cases (show u=Value.ref b from ru)
  rcases hq with z | z
  ·exact absurd z.1 (fun z=>nomatch z)
  obtain⟨its,rv,pl,_⟩:=I1.list z.2
  obtain⟨as,ra⟩:=d9 I1 hG (qO hd) rq rv
  have l1:=rq.length
  have l2:=rv.length
  have ra0:ReadsAll s1.heap its.toArray.toList (aQ ds) as:=by simpa using ra
  refine zK (items:=its.toArray) (by omega) hh (by simpa using pl.isList) ra0 hd h64 fun h' tk sa kb ht=> ?_
  have k1: ∀ b o,s1.heap.get? b=some o->h'.get? b=some o:=fun b o e=>kb b o (ah e) e
  have I2:Inv X pins σ H1 { s1 with heap:=h',toks:=tk }:=I1.kept k1
  obtain⟨L,m,mv,ep,ks,ho,hT,hm',hl,kl,kd,kp⟩:=sa
  rw [List.take_of_length_le (aj _)] at kd
  have lenL:L.length=(ddD ds).length:=by
   have h1:=kp.length_eq
   have h2:=congrArg List.length kd
   simp only [am] at h1 h2
   omega
  have W:fR X.w (L.map (·.2)).toArray (tbl m mv (!X.w.params.followText "set-order") (L.map (·.1))) (L.map (·.1)):=by
   refine⟨mV (by rcases hm' with rfl | rfl | rfl<;>omega),fun e=>⟨rfl,hT.up,by simp, ?_,rfl⟩⟩
   show(!X.w.params.followText "set-order")=true
   rw [e];rfl
  refine lI (Cd:=fun vs' h1 tk2=>(∃ js:List Nat,js.Perm ks/\vs'=js.map fun k=>its.getD k Value.none)/\(∀ b o,h'.get? b=some o->h1.get? b=some o)/\tk<=tk2) (s:={ s1 with heap:=h',toks:=tk }) (by omega)
   (fun Q' hQ'=>sH (s:={ s1 with heap:=h',toks:=tk }) (A:=X.A.in1) (by simp [hh]) ho W (by rw [sizeLine_eq];simp;omega) fun g1 tk2 acc c1 c2 c3=>hQ' _ g1 tk2 ⟨?_,c1,c2⟩) ?_
  ·have:=c3.trans ((kp.map (·.2)).trans (List.Perm.of_eq (List.map_map ..)))
   have e:(fun x:Nat=>(fun x:Int×Value=>x.2) ((fun k=>(hsh (bJ (ds.getD k .non)),its.toArray.toList.getD k Value.none)) x))=fun k=>its.getD k Value.none:=by funext k;simp
   have t2:acc.toList.Perm (ks.map fun k=>its.getD k Value.none):=by
    have h3:=c3
    rw [List.map_map] at h3
    refine(List.Perm.trans ?_ ((kp.map (·.2)).trans (List.Perm.of_eq ?_)))
    ·simpa using c3
    ·rw [List.map_map];congr 1
   exact zL t2
  ·rintro vs' g1 tk2 ⟨⟨js,pj,rfl⟩,c1,c2⟩
   have ltj: ∀ j∈js,j<ds.length:=fun j hj=>kl j (pj.mem_iff.mp hj)
   have hpd:(js.map fun k=>ds.getD k .non).Perm (ddD ds):=by rw [<-kd];exact pj.map _
   obtain⟨one,tups,tupN⟩:=fS hd
   have sub: ∀ x∈ddD ds,x∈ds:=fun x hx=>by
    rcases aLd ds [] x hx with z | z
    ·cases z
    ·exact z
   have oneD:One (ddD ds):=fun x hx y hy=>one x (sub x hx) y (sub y hy)
   have hdj:fL (js.map fun k=>ds.getD k .non)=true:=by
    have memj: ∀ x∈js.map (fun k=>ds.getD k .non),x∈ds:=fun x hx=>sub x (hpd.mem_iff.mp hx)
    have aBk:2<=js.length->2<=ds.length:=fun h2=>by
     refine Classical.byContradiction fun hlt=> ?_
     have nd:js.length<=ds.length:=by
      have h1:=hpd.length_eq
      have h3:=aLc ds []
      simp only [am] at h1
      simp only [List.length_nil,Nat.zero_add] at h3
      have:(ddD ds).length=(ds.foldl jY []).length:=rfl
      omega
     omega
    cases hjs:js with
    | nil=>rfl
    | cons j r=>
     rw [hjs] at memj aBk
     simp only [List.map_cons,fL,au,decide_eq_true_eq,List.all_eq_true]
     have m0:=memj _ (ao.mpr ⟨j, .head _,rfl⟩)
     refine⟨⟨⟨⟨(tups _ m0).1, ?_⟩,(tups _ m0).2⟩,one _ m0 _ m0⟩,fun y hy=>one _ m0 _ (memj y (.tail _ hy))⟩
     rw [Bool.or_eq_true]
     cases r with
     | nil=>exact .inl rfl
     | cons j2 r2=>exact .inr (tupN (aBk (by simp)) _ m0)
   have c3: ∀ b o,s1.heap.get? b=some o->g1.get? b=some o:=fun b o e=>c1 b o (k1 b o e)
   have raj: ∃ bs,ReadsAll g1 (js.map fun k=>its.getD k Value.none) (aQ (js.map fun k=>ds.getD k .non)) bs:=by
    have r0:=bU (fun b o _ e=>c3 b o e) (zI hd) ra
    have gen: ∀ l:List Nat,(∀ j∈l,j<ds.length)-> ∃ bs,ReadsAll g1 (l.map fun k=>its.getD k Value.none) (aQ (l.map fun k=>ds.getD k .non)) bs:=by
     intro l
     induction l with
     | nil=>intro _;exact⟨[],by simp only [List.map_nil,aQ];exact .nil⟩
     | cons j l ih=>
      intro hl
      obtain⟨bs,rb⟩:=ih fun j hj=>hl j (.tail _ hj)
      obtain⟨cs,rc⟩:=iU r0 (hl j (.head _))
      exact⟨cs++bs,by simp only [List.map_cons,aQ];exact .cons rc rb⟩
    exact gen js ltj
   obtain⟨bs,rb⟩:=raj
   refine⟨_,bs,rb,hdj,by have:=hpd.length_eq;simp only [am] at this ⊢;omega,fun g2 pm e k2 at' gd st=> ?_⟩
   have I3:Inv X pins σ H1 { s1 with heap:=g1,toks:=tk2 }:=I2.kept (t':=tk2) c1
   have gs:=gd.size
   rw [am] at gs gd st
   have ltp: ∀ i∈pm.toList,i<js.length:=fun i hi=>by
    have:=(Array.Perm.mem_iff gd).mp (Array.mem_def.mpr hi)
    simpa using this
   have hsub: ∀ i∈pm.toList.map (fun i=>js.getD i 0),i<vs.length:=fun i hi=>by
    obtain⟨t,t1,rfl⟩:=ao.mp hi
    have:=ltp t t1
    have:js.getD t 0∈js:=by rw [bu,ba this,Option.getD_some];exact List.getElem_mem this
    have:=ltj _ this
    omega
   have cmp: ∀ {α:Type} (g:Nat->α) (z:α),pm.toList.map (fun i=>(js.map g).getD i z)=(pm.toList.map fun i=>js.getD i 0).map g:=fun g z=>by
    rw [List.map_map]
    refine List.map_congr_left fun i hi=> ?_
    have:=ltp i hi
    simp [this]
   have hz:((pm.toList.map fun i=>js.getD i 0).map fun i=>vs.getD i V.non).length<=sizeLine:=by
    have:=hpd.length_eq
    simp only [am,Array.length_toList] at this ⊢
    rw [gs,sizeLine_eq];omega
   rw [cmp] at at'
   refine⟨.ref g1.objs.size,_,I3.laid (t':=tk2) k2 (aj _) (show ObjOk X.prog X.w _ g2 _ (.lst _) from⟨hz,_,e,lK rv hsub,at'⟩),rfl,k.ow_new hG ?_ (I3.hok.fresh (aj _))⟩
   have hd':=lJ rq (l:=pm.toList.map fun i=>js.getD i 0) fun i hi=>by rw [<-l1];exact hsub i hi
   rw [<-lG oneD hpd, <-aEj (n:=js.length) (fun x hx y hy=>oneD x (hpd.mem_iff.mp hx) y (hpd.mem_iff.mp hy)) (by simp) gd st,cmp]
   exact hd'
 ·rw [if_neg hb] at k
  exact k.elim
end
noncomputable def iv:Value->Int
 | .int n _=>n
 | _=>0
section
variable {X:Cx} {ad:Ad} {a:Expr} {f:F} {p p2 pos pos2:Pos}
theorem oM (hg:L2.Gl X "set") (hm:X.mg "set"=none) (hgs:L2.Gl X "sorted") (hms:X.mg "sorted"=none) (hh:X.A.handled=none) (hun:X.A.units+62<cLine) (ha:ML X ad a f) (he:starEach [a] X.env=(false,eval a X.env)::starEach [] X.env):
  ME X ad (.Call (.Name "sorted" p) [.Call (.Name "set" p2) [a] [] pos2] [] pos) (aB dSS [f]):=by
 intro pins s σ H Q I ⟨G,ρ,E,hG,hS,hx,hr⟩
 unfold aB at hr
 rw [nZ] at hr
 refine wpAny_Call_Name_kw (gU (u:= .builtin "sorted") I hgs hms (by decide+kernel) (PyProof.Rows.callWith_builtin1 ?_ rfl rfl) (by decide) (by decide))
 refine Calls.spliced_cons ?_
 refine wpAny_Call_Name_kw (gU (u:= .type "set") I hg hm (by decide+kernel) ?_ (by decide) (by decide))
 refine PyProof.Rows.callWith_type1 (L2.thn (dR ha gA he pos2 pins s σ H (fun vs H1=> ∃ v d G1,vs=[v]/\Step G H G1 H1/\Seq X ad G1 H1 d v/\RK X.K ad G1 H1 (dSS [d]) Q E) I ?_) fun us s1 ⟨vs,H1,I1,r1,v,d,G1,e1,st,q,k⟩=> ?_) he rfl
 ·exact sA hG hS hx hr fun v d G1 H1 st q k=>⟨v,d,G1,rfl,st,q,k⟩
 ·subst e1
  obtain⟨u,rfl,ru⟩:=nO r1
  cases d<;>try exact ay k
  rename_i ds
  exact wpAny_mono (zM hh hun I1 st.gh q ru k) (fun t s2 h=>Calls.spliced_nil h) fun _ _ e=>e
end
theorem sK {x y:D} (h:same x y=true):deq x y=true↔x=y:=by
 rw [kB h,beq_iff_eq]
 exact⟨oG h,fun e=>by rw [e]⟩
theorem One.sub {l k:List D} (h:One l) (s: ∀ x∈k,x∈l):One k:=fun x hx y hy=>h x (s x hx) y (s y hy)
theorem aLe (l:List D): ∀ acc:List D,One (acc++l)->acc.Nodup->(l.foldl jY acc).Nodup/\ ∀ x,x∈l.foldl jY acc↔x∈acc\/x∈l:=by
 induction l with
 | nil=>intro acc _ hn;exact⟨hn,fun x=>by simp⟩
 | cons d l ih=>
  intro acc ho hn
  have md:d∈acc++d::l:=by simp
  have hany:acc.any (fun e=>deq e d)=true↔d∈acc:=by
   rw [List.any_eq_true]
   constructor
   ·rintro⟨e,me,q⟩
    have:=(sK (ho e (List.mem_append.mpr (.inl me)) d md)).mp q
    rw [<-this];exact me
   ·intro m
    exact⟨d,m,(sK (ho d md d md)).mpr rfl⟩
  rw [List.foldl_cons]
  by_cases h:d∈acc
  ·have e:jY acc d=acc:=by unfold jY;rw [if_pos (hany.mpr h)]
   rw [e]
   obtain⟨i1,i2⟩:=ih acc (ho.sub fun x hx=>by rcases List.mem_append.mp hx with z | z<;>simp [z]) hn
   refine⟨i1,fun x=>(i2 x).trans ⟨fun z=>z.elim .inl fun z=> .inr (.tail _ z),fun z=>z.elim .inl fun z=> ?_⟩⟩
   rcases aq.mp z with rfl | z
   ·exact .inl h
   ·exact .inr z
  ·have e:jY acc d=acc++[d]:=by unfold jY;rw [if_neg (fun z=>h (hany.mp z))]
   rw [e]
   obtain⟨i1,i2⟩:=ih (acc++[d]) (ho.sub fun x hx=>by simpa using hx) (List.nodup_append.mpr ⟨hn,by simp,fun a ha b hb=>by
    have:b=d:=by simpa using hb
    rw [this];exact fun z=>h (z▸ha)⟩)
   refine⟨i1,fun x=>(i2 x).trans ?_⟩
   simp [or_assoc]
theorem oN {l:List D} (ho:One l):(ddD l).Nodup:=(aLe l [] (by simpa using ho) List.nodup_nil).1
theorem uO {l:List D} (ho:One l) (x:D):x∈ddD l↔x∈l:=((aLe l [] (by simpa using ho) List.nodup_nil).2 x).trans (by simp)
noncomputable def lM (l:List D):List D:=d8 (ddD l)
theorem oO {l:List D} (ho:One l) (x:D):x∈lM l↔x∈l:=((dG _).mem_iff).trans (uO ho x)
theorem jG {l k:List D} (ho:One l) (h: ∀ x,x∈k↔x∈l):lM k=lM l:=by
 have hk:One k:=ho.sub fun x hx=>(h x).mp hx
 refine lG (ho.sub fun x hx=>(uO ho x).mp hx) ?_
 exact(List.perm_ext_iff_of_nodup (oN hk) (oN ho)).mpr fun x=>(uO hk x).trans ((h x).trans (uO ho x).symm)
theorem uP {l:List D}:(lM l).length=(ddD l).length:=(dG _).length_eq
theorem aLf {l:List D} (hn:fL l=true) (h64:(ddD l).length<64):dSS [.lst l]= .ow (lM l):=by
 show aJv l=_
 unfold aJv
 rw [hn,decide_eq_true h64]
 rfl
theorem v8 {l:List D} (hn:fL l=true) (h64:l.length<64):fM [.lst l]= .ow (d8 l):=by
 show iL l=_
 unfold iL
 rw [hn,decide_eq_true h64]
 rfl
theorem uQ {l:List D} (h0:l≠[]) (h1: ∀ d∈l,eJ d=true) (h2: ∀ d∈l,dep d<=8) (h3:One l):fL l=true:=by
 cases l with
 | nil=>exact absurd rfl h0
 | cons d r=>
  have hN:=h1 d (.head _)
  have h8:=h2 d (.head _)
  have ht:iK d=true:=by cases d<;>simp [eJ] at hN<;>rfl
  simp only [fL,au,decide_eq_true_eq,List.all_eq_true]
  exact⟨⟨⟨⟨ht,by rw [hN];simp⟩,h8⟩,h3 d (.head _) d (.head _)⟩,fun x hx=>h3 d (.head _) x (.tail _ hx)⟩
section
variable {h h':Heap} {d:Addr} {o:Obj} {es:Array DictEntry} {ep:Nat}
theorem aCi (ho:h.get? d=some o) (hd:o.data= .dict es ep) (hs:Heap.SameBut d h h') {a:Addr} {u:Obj} {vs:Array Value} {n:Nat} (hu:h.get? a=some u) (hq:u.data= .seq vs n):h'.get? a=some u:=by
 have ne:a≠d:=fun z=>by
  subst z
  rw [ho] at hu
  cases hu
  rw [hd] at hq
  cases hq
 exact(hs.2 a ne).trans hu
mutual
theorem rk1 (ho:h.get? d=some o) (hd:o.data= .dict es ep) (hs:Heap.SameBut d h h'): ∀ (k:PyData) (v:Value) (as:List Addr),hk k=true->Reads h v k as->Reads h' v k as
 | .none,v,as,_,r=>by cases r;exact .none
 | .int i,v,as,_,r=>by cases r;exact .int _ _
 | .tuple xs,v,as,hk',r=>by
  cases r with
  | tuple h1 h2 h3 h4=>exact .tuple (aCi ho hd hs h1 h3) h2 h3 (rk2 ho hd hs xs _ _ (by simpa [hk] using hk') h4)
 | .bool _,_,_,h,_=>by simp [hk] at h
 | .str _,_,_,h,_=>by simp [hk] at h
 | .list _,_,_,h,_=>by simp [hk] at h
 | .dict _,_,_,h,_=>by simp [hk] at h
theorem rk2 (ho:h.get? d=some o) (hd:o.data= .dict es ep) (hs:Heap.SameBut d h h'): ∀ (ks:List PyData) (vs:List Value) (as:List Addr),hks ks=true->ReadsAll h vs ks as->ReadsAll h' vs ks as
 | [],_,_,_,r=>by cases r;exact .nil
 | k::ks,_,_,hk',r=>by
  rw [hks,au] at hk'
  cases r with
  | cons r1 r2=>exact .cons (rk1 ho hd hs k _ _ hk'.1 r1) (rk2 ho hd hs ks _ _ hk'.2 r2)
end
end
mutual
theorem aPz: ∀ x:PyData,hk x=true->PyData.eqv x x=true
 | .none,_=>by simp [PyData.eqv]
 | .int i,_=>by simp [PyData.eqv]
 | .tuple xs,h=>by
  rw [PyData.eqv]
  exact aLg xs (by simpa [hk] using h)
 | .bool _,h=>by simp [hk] at h
 | .str _,h=>by simp [hk] at h
 | .list _,h=>by simp [hk] at h
 | .dict _,h=>by simp [hk] at h
theorem aLg: ∀ xs:List PyData,hks xs=true->PyData.eqvAll xs xs=true
 | [],_=>by simp [PyData.eqvAll]
 | x::xs,h=>by
  rw [hks,au] at h
  rw [PyData.eqvAll,aPz x h.1,aLg xs h.2]
  rfl
end
noncomputable instance decPy:DecidableEq PyData:=fun a b=>Classical.propDecidable (a=b)
mutual
theorem zN: ∀ d:D,hkD d=true->plain d=true
 | .non,_=>by simp [plain]
 | .int _,_=>by simp [plain]
 | .tup xs,h=>by simpa [plain] using m6 xs (by simpa [hkD] using h)
 | .bl _,h=>by simp [hkD] at h
 | .str _,h=>by simp [hkD] at h
 | .lst _,h=>by simp [hkD] at h
 | .exc _,h=>by simp [hkD] at h
 | .fn _,h=>by simp [hkD] at h
theorem m6: ∀ ds:List D,aDw ds=true->aH ds=true
 | [],_=>by simp [aH]
 | d::ds,h=>by
  have h':hkD d=true/\aDw ds=true:=by simpa [aDw] using h
  simp [aH,zN d h'.1,m6 ds h'.2]
end
mutual
theorem aLh: ∀ d:D,hkD d=true->hk (bJ d)=true/\hsh (bJ d)=hD d
 | .non,_=>by simp [bJ,hk,hsh,hD]
 | .int _,_=>by simp [bJ,hk,hsh,hD]
 | .tup xs,h=>by
  have:=zO xs (by simpa [hkD] using h)
  simp [bJ,hk,hsh,hD,this.1,this.2]
 | .bl _,h=>by simp [hkD] at h
 | .str _,h=>by simp [hkD] at h
 | .lst _,h=>by simp [hkD] at h
 | .exc _,h=>by simp [hkD] at h
 | .fn _,h=>by simp [hkD] at h
theorem zO: ∀ ds:List D,aDw ds=true->hks (aQ ds)=true/\aAx (aQ ds)=hDs ds
 | [],_=>by simp [aQ,hks,aAx,hDs]
 | d::ds,h=>by
  have h':hkD d=true/\aDw ds=true:=by simpa [aDw] using h
  have h1:=aLh d h'.1
  have h2:=zO ds h'.2
  simp [aQ,hks,aAx,hDs,h1.1,h1.2,h2.1,h2.2]
end
noncomputable def y3 (p:D×D) (x:Int×Addr×Value):PyData×Addr×Value:=(bJ p.1,x.2.1,x.2.2)
section
variable {K:PySem.W.Frag} {ad:Ad} {G:Hp} {prog:Program} {w:World}
end
section
variable {X:Cx} {ad:Ad} {Z:(St->Nat->Hp->Prop)->Prop} {pins:List (Addr×Obj)} {s:Shared} {σ:St} {H G G₀:Hp} {ρ:Rho} {D':Ends} {E:St->Nat->Hp->Prop} {pos pos':Pos} {e:Expr} {f:F} {g h:FS} {st:Stmt} {sts:List Stmt}
end
section
variable {X:Cx} {ad:Ad} {Z:(St->Nat->Hp->Prop)->Prop} {pins:List (Addr×Obj)} {s:Shared} {σ:St} {H G G₀:Hp} {ρ:Rho} {D':Ends} {E:St->Nat->Hp->Prop} {pos pos':Pos} {e:Expr} {f:F} {g h:FS} {st:Stmt} {sts:List Stmt}
theorem aLi {i:Nat} {x:Str} {p tp:Pos} {kx:Expr} {fk:F} (hu:X.A.units+62<cLine) (hN:X.N[i]? =some x) (hv:Vis X.env.scope x) (hd:(x==("__debug__":Str))=false) (hcd:(x==("__classdict__":Str))=false) (he:ME X ad e f) (hk:ME X ad kx fk)
  (ha: ∀ v,assign (.Subscript (.Name x p) kx tp) X.env v=(do
   let ov<-holding [v] (eval (.Name x p) X.env)
   let iv<-holding [v,ov] (eval kx X.env)
   standAt tp
   holding [v,ov,iv] (setItem ov iv v)
   release [v,ov,iv] [])) (hs:swapsWithSole [.Subscript (.Name x p) kx tp] e pos.line X.env=pure false) (hw:swappedStores [.Subscript (.Name x p) kx tp] e X.env=pure none):
  MS X ad Z (.Assign [.Subscript (.Name x p) kx tp] e pos) (aFn i fk f):=by
 refine PS.imp (aI8 he (aI7 (gT hN hv hd hcd) hk aA9 ha) hs hw rfl) ?_
 rintro D' σ H ⟨G₀,G,ρ,E,S,hx,hr⟩
 unfold aFn at hr
 refine mQ S hx hr fun v d G1 H1 st r k=> ?_
 cases q:ρ[i]? with
 | none=>rw [q] at k;exact k.elim
 | some sl=>
  rw [q] at k
  cases sl with
  | no=>exact k.elim
  | sh d=>exact k.elim
  | sd d=>exact k.elim
  | ow xs=>
   obtain⟨a,vs,h1,h2,h3,h4⟩:=(S.step st).sl.ow q
   refine⟨.ref a,h1, ?_⟩
   refine mQ (S.step st) hx k fun v2 y G2 H2 st2 r2 k2=> ?_
   obtain⟨g2,h2'⟩:=eM st2 h2 h3
   cases y<;>try exact ay k2
   rename_i j
   unfold Rep at r2;subst r2
   have k':OKo X ad G₀ (match ixD xs.length j with | some m=> .nx (ρ.set i (.ow (xs.set m d))) | none=> .rt .bad) D' E:=k2
   cases q2:ixD xs.length j with
   | none=>rw [q2] at k';exact k'.elim
   | some m=>
    rw [q2] at k'
    have r4:=h4.mono st2.sg
    refine⟨a,vs,j,m,rfl,rfl,h2',by rw [h4.length, <-aD9];exact q2, ?_⟩
    exact k' σ G2 _ (((S.step st).step st2).upd q h1 g2 (aG.set (r.mono st2.sg) m r4))
  | dc kvs=>exact k.elim
theorem RK.bool_share {a:Addr} {vs:List V} {r:R} {Q:VK} {E:Nat->Hp->Prop} (hb:(∃ b,r= .ok (.bl b))\/r= .bad) (g:G a=none) (k:RK X.K ad G H r Q E):RK X.K ad (upd G a (.lst vs)) H r Q E:=by
 rcases hb with ⟨b,rfl⟩ | rfl
 ·intro v G1 H1 st q
  have q':v= .bl b:=by unfold Rep at q;exact q
  subst q'
  refine k (.bl b) (fun c=>if c=a then none else G1 c) H1 ⟨fun c u e=> ?_,fun c u e=> ?_,st.sh,fun c e1 e2=> ?_⟩ bP
  ·have ne:c≠a:=bF e g
   show(if c=a then none else G1 c)=some u
   rw [if_neg ne]
   exact st.sg c u (by rw [aM ne];exact e)
  ·have e':(if c=a then none else G1 c)=some u:=e
   by_cases z:c=a
   ·rw [if_pos z] at e';cases e'
   ·rw [if_neg z] at e';exact st.gh c u e'
  ·have e':(if c=a then none else G1 c)≠none:=e2
   by_cases z:c=a
   ·rw [if_pos z] at e';exact absurd rfl e'
   ·rw [if_neg z] at e';exact st.nw c (by rw [aM z];exact e1) e'
 ·exact k
theorem sL {op:CmpOp} {x y:D} {v w:V} {u z:Value} {Q:VK} {E:Nat->Hp->Prop} (hu:X.A.units+62<cLine) (I:Inv X pins σ H s) (hG:Same G H) (qx:Seq X ad G H x v) (qy:Seq X ad G H y w) (ru:b9 v u) (rz:b9 w z)
  (k:RK X.K ad G H (eF op x y) Q E):wpAny (model X.prog X.w) X.A (compareOp op u z) (EP X pins σ Q) X.xe s:=by
 have hb:=xH (op:=op) (x:=x) (y:=y)
 -- the left one is shared for the time
 have sh: ∀ {G:Hp} {a:Addr} {vs:List V} {ds:List D},Same G H->H a=some (.lst vs)->aG X.K ad G ds vs->Same (upd G a (.lst vs)) H/\Rep X.K ad (upd G a (.lst vs)) (.lst ds) (.ref a):=fun {G a vs ds} hG h2 h3=>by
  have st:G a=none\/G a=some (.lst vs):=by
   cases q:G a with
   | none=>exact .inl rfl
   | some o=>rw [hG a o q] at h2;exact .inr h2
  have le:Same G (upd G a (.lst vs)):=fun b o e=>by
   by_cases zb:b=a
   ·subst zb
    rcases st with q | q
    ·rw [q] at e;cases e
    ·rw [a9, <-q];exact e
   ·rw [aM zb];exact e
  refine⟨fun b o e=> ?_, ?_⟩
  ·by_cases zb:b=a
   ·subst zb;rw [a9] at e;cases e;exact h2
   ·rw [aM zb] at e;exact hG b o e
  ·unfold Rep
   exact⟨a,vs,rfl,SqL.of a9,h3.mono le⟩
 have mo: ∀ {G:Hp} {a:Addr} {vs:List V},G a=none->Same G (upd G a (.lst vs)):=fun g=>Same.upd_new g
 have right: ∀ {G:Hp},Same G H->Rep X.K ad G x v->Seq X ad G H y w->RK X.K ad G H (eF op x y) Q E->wpAny (model X.prog X.w) X.A (compareOp op u z) (EP X pins σ Q) X.xe s:=fun {G} hG rx qy k=>by
  rcases qy with ry | ⟨a,vs,ds,rfl,rfl,g1,h2,h3⟩
  ·exact kU op hu pins s σ H G x y v w u z Q E I hG rx ry ru rz k
  ·obtain⟨s1,s2⟩:=sh hG h2 h3
   exact kU op hu pins s σ H _ x _ v _ u z Q E I s1 (rx.mono (mo g1)) s2 ru rz (k.bool_share hb g1)
 rcases qx with rx | ⟨a,vs,ds,rfl,rfl,g1,h2,h3⟩
 ·exact right hG rx qy k
 ·obtain⟨s1,s2⟩:=sh hG h2 h3
  refine right s1 s2 ?_ (k.bool_share hb g1)
  rcases qy with ry | ⟨a',vs',ds',rfl,rfl,g1',h2',h3'⟩
  ·exact .inl (ry.mono (mo g1))
  ·by_cases za:a'=a
   ·subst za
    rw [h2] at h2'
    cases h2'
    refine .inl ?_
    unfold Rep
    exact⟨a',vs,rfl,SqL.of a9,h3'.mono (mo g1)⟩
   ·exact .inr ⟨a',vs',ds',rfl,rfl,by rw [aM za];exact g1',h2',h3'.mono (mo g1)⟩
theorem zP {op:CmpOp} {a b:Expr} {f g:F} {Q:VK} {E:Nat->Hp->Prop} (hu:X.A.units+62<cLine) (ha:MLk X ad a f) (hb:MLk X ad b g) (I:Inv X pins σ H s) (hG:Same G H) (hS:SL X.K ad G H ρ σ) (hx:XP X ad σ E) (hr:RK X.K ad G H (aP op f g ρ) Q E):
  wpAny (model X.prog X.w) X.A (eval a X.env) (fun u s1=>wpAny (model X.prog X.w) X.A (eval b X.env) (fun z s2=>wpAny (model X.prog X.w) X.A (compareOp op u z) (EP X pins σ Q) X.xe s2) X.xe s1) X.xe s:=by
 refine L2.thn (ha pins s σ H G ρ (fun x=>(g ρ).bind fun y=>eF op x y) Q E I hG hS hx hr) fun u s1 hz1=> ?_
 obtain⟨v,d1,G1,H1,I1,r1,st1,q1,k1⟩:=hz1
 refine L2.thn (hb pins s1 σ H1 G1 ρ (fun y=>eF op d1 y) Q E I1 st1.gh (hS.step st1) hx k1) fun z s2 hz2=> ?_
 obtain⟨w,d2,G2,H2,I2,r2,st2,q2,k2⟩:=hz2
 exact sL hu I2 st2.gh (Seq.step q1 st2) q2 r1 r2 k2
theorem aHh {op:CmpOp} {a b:Expr} {f g:F} (hu:X.A.units+62<cLine) (ha:MLk X ad a f) (hb:MLk X ad b g) (hm:behindInMarks op b=false):ME X ad (.Compare a [op] [b] pos) (aP op f g):=by
 intro pins s σ H Q I ⟨G,ρ,E,hG,hS,hx,hr⟩
 exact wpAny_Compare1 (zP hu ha hb I hG hS hx hr) hm
theorem uR {op:CmpOp} {a b:Expr} {F':F} (hm:behindInMarks op b=false)
  (go: ∀ {pins:List (Addr×Obj)} {s:Shared} {σ:St} {H G:Hp} {ρ:Rho} {Q:VK} {E:Nat->Hp->Prop},Inv X pins σ H s->Same G H->SL X.K ad G H ρ σ->XP X ad σ E->RK X.K ad G H (F' ρ) Q E->
   wpAny (model X.prog X.w) X.A (eval a X.env) (fun u s1=>wpAny (model X.prog X.w) X.A (eval b X.env) (fun z s2=>wpAny (model X.prog X.w) X.A (compareOp op u z) (EP X pins σ Q) X.xe s2) X.xe s1) X.xe s):MT X ad (.Compare a [op] [b] pos) F':=by
 intro pins s σ H Q I ⟨G,ρ,E,hG,hS,hx,ht,hr⟩
 refine wpAny_isTrue_Compare1 (L2.thn (go I hG hS hx hr) fun v s1 h1=>L2.thn h1 fun u s2 h2=>L2.thn h2 fun c s3 hz=> ?_) hm
 obtain⟨x,H1,I1,r1,k,e,q⟩:=hz
 subst e
 cases r1
 exact wpAny_truthy_bool ⟨H1,I1,q⟩
theorem aHi {op:CmpOp} {a b:Expr} {f g:F} (hu:X.A.units+62<cLine) (ha:MLk X ad a f) (hb:MLk X ad b g) (hm:behindInMarks op b=false):MT X ad (.Compare a [op] [b] pos) (aP op f g):=
 uR hm fun I hG hS hx hr=>zP hu ha hb I hG hS hx hr
theorem aEk {op:CmpOp} {a:Expr} {f:F} {i:Nat} {x:Str} {p:Pos} {Q:VK} {E:Nat->Hp->Prop} (hN:X.N[i]? =some x) (hv:Vis X.env.scope x) (hd:(x==("__debug__":Str))=false) (hcd:(x==("__classdict__":Str))=false) (hu:X.A.units+62<cLine) (ha:MLk X ad a f) (I:Inv X pins σ H s) (hG:Same G H) (hS:SL X.K ad G H ρ σ) (hx:XP X ad σ E) (hr:RK X.K ad G H (aFm op f i ρ) Q E):
  wpAny (model X.prog X.w) X.A (eval a X.env) (fun u s1=>wpAny (model X.prog X.w) X.A (eval (.Name x p) X.env) (fun z s2=>wpAny (model X.prog X.w) X.A (compareOp op u z) (EP X pins σ Q) X.xe s2) X.xe s1) X.xe s:=by
 refine L2.thn (ha pins s σ H G ρ (fun x=>match ρ[i]? with
  | some (.sh y)=>eF op x y
  | some (.ow ys)=>eF op x (.lst ys)
  | _=> .bad) Q E I hG hS hx hr) fun u s1 hz1=> ?_
 obtain⟨v,d1,G1,H1,I1,r1,st1,q1,k1⟩:=hz1
 have S1:=hS.step st1
 cases e:ρ[i]? with
 | none=>rw [e] at k1;exact k1.elim
 | some sl=>
  rw [e] at k1
  have look: ∀ (w:V),σ[i]? =some (some w)->(∀ z s2,Inv X pins σ H1 s2->b9 w z->wpAny (model X.prog X.w) X.A (compareOp op u z) (EP X pins σ Q) X.xe s2)->
    wpAny (model X.prog X.w) X.A (eval (.Name x p) X.env) (fun z s2=>wpAny (model X.prog X.w) X.A (compareOp op u z) (EP X pins σ Q) X.xe s2) X.xe s1:=fun w h1 h=>by
   refine L2.thn (gT hN hv hd hcd pins s1 σ H1 (fun v' H'=>v'=w/\H'=H1) I1 ⟨w,h1,rfl,rfl⟩) fun z s2 hz_=> ?_
   obtain⟨v',H',I2,r2,e1,e2⟩:=hz_
   subst e1;subst e2
   exact h z s2 I2 r2
  cases sl with
  | no=>exact k1.elim
  | sh y=>
   obtain⟨w,h1,h2⟩:=S1.sh e
   exact look w h1 fun z s2 I2 r2=>sL hu I2 st1.gh q1 (.inl h2) r1 r2 k1
  | ow ys=>
   obtain⟨b,vs,h1,h2,h3,h4⟩:=S1.ow e
   exact look _ h1 fun z s2 I2 r2=>sL hu I2 st1.gh q1 (.inr ⟨b,vs,ys,rfl,rfl,h2,h3,h4⟩) r1 r2 k1
  | dc kvs=>exact k1.elim
  | sd kvs=>exact k1.elim
theorem aLj {op:CmpOp} {a:Expr} {f:F} {i:Nat} {x:Str} {p:Pos} (hN:X.N[i]? =some x) (hv:Vis X.env.scope x) (hd:(x==("__debug__":Str))=false) (hcd:(x==("__classdict__":Str))=false) (hu:X.A.units+62<cLine) (ha:MLk X ad a f) (hm:behindInMarks op (.Name x p)=false):ME X ad (.Compare a [op] [.Name x p] pos) (aFm op f i):=by
 intro pins s σ H Q I ⟨G,ρ,E,hG,hS,hx,hr⟩
 exact wpAny_Compare1 (aEk hN hv hd hcd hu ha I hG hS hx hr) hm
theorem aLk {op:CmpOp} {a:Expr} {f:F} {i:Nat} {x:Str} {p:Pos} (hN:X.N[i]? =some x) (hv:Vis X.env.scope x) (hd:(x==("__debug__":Str))=false) (hcd:(x==("__classdict__":Str))=false) (hu:X.A.units+62<cLine) (ha:MLk X ad a f) (hm:behindInMarks op (.Name x p)=false):MT X ad (.Compare a [op] [.Name x p] pos) (aFm op f i):=
 uR hm fun I hG hS hx hr=>aEk hN hv hd hcd hu ha I hG hS hx hr
end
section
variable {prog:Program} {w:World} {A:Around} {E:Value->Shared->Prop} {s:Shared}
end
section
variable {X:Cx} {ad:Ad} {pins:List (Addr×Obj)} {s:Shared} {σ:St} {H G:Hp} {ρ:Rho} {tg:Expr}
end
theorem dM {l:List Expr} {a:Expr} (h:one l=some a):l=[a]:=by
 unfold one at h
 split at h
 ·cases h;rfl
 ·cases h
theorem zQ {l:List Expr} {a b:Expr} (h:two l=some (a,b)):l=[a,b]:=by
 unfold two at h
 split at h
 ·cases h;rfl
 ·cases h
theorem b8 {e:Expr} {x:Str} {p:Pos} (h:gE e=some (x,p)):e= .Name x p:=by
 cases e<;>first | (cases h;rfl) | (cases h;done)
theorem zR {e:Expr} {lo hi:Option Expr} (h:aDz e=some (lo,hi)): ∃ p,e= .Slice lo hi none p:=by
 cases e<;>try (cases h;done)
 rename_i a b c p
 cases c with
 | none=>cases h;exact⟨p,rfl⟩
 | some c=>cases h
theorem aCj {e:Expr} (h:aFo e=true): ∃ j p,e= .Constant (.int 1) j p:=by
 cases e<;>try (cases h;done)
 rename_i c j p
 cases c<;>try (cases h;done)
 rename_i i
 have:i=1:=by simpa [aFo] using h
 subst this
 exact⟨j,p,rfl⟩
theorem aHj {e:Expr} (h:aOt e=true): ∃ j p q,e= .UnaryOp .USub (.Constant (.int 1) j q) p:=by
 cases e<;>try (cases h;done)
 rename_i op e p
 cases op<;>try (cases h;done)
 obtain⟨j,q,rfl⟩:=aCj (e:=e) h
 exact⟨j,p,q,rfl⟩
theorem aHk {e:Expr} (h:aOv e=true): ∃ j p2 p3 p4,e= .Slice none none (some (.UnaryOp .USub (.Constant (.int 1) j p4) p3)) p2:=by
 cases e<;>try (cases h;done)
 rename_i lo hi st p
 cases lo<;>try (cases h;done)
 cases hi<;>try (cases h;done)
 cases st<;>try (cases h;done)
 obtain⟨j,q,r,rfl⟩:=aHj h
 exact⟨j,p,q,r,rfl⟩
theorem aCk {e:Expr} (h:vR e=true): ∃ j p,e= .Constant (.int 2) j p:=by
 cases e<;>try (cases h;done)
 rename_i c j p
 cases c<;>try (cases h;done)
 rename_i i
 have:i=2:=by simpa [vR] using h
 subst this
 exact⟨j,p,rfl⟩
theorem aCl {e l:Expr} (h:aJ0 e=some l): ∃ j p2 p4,e= .Slice (some l) none (some (.Constant (.int 2) j p4)) p2:=by
 cases e<;>try (cases h;done)
 rename_i lo hi st p
 cases hi<;>try (cases h;done)
 cases st<;>try (cases h;done)
 rename_i e
 cases ht:vR e with
 | false=>
  have:(if(true&&vR e)=true then lo else none)=some l:=h
  rw [ht] at this;cases this
 | true=>
  have:(if(true&&vR e)=true then lo else none)=some l:=h
  rw [ht] at this
  obtain⟨j,q,rfl⟩:=aCk ht
  cases (show lo=some l from this)
  exact⟨j,p,q,rfl⟩
theorem aMg {dE:Expr->Option F} {C:SK.Ctx} {a:Expr} {f:F} (h:aJ2 dE C a=some f): ∃ x p b q,a= .Call (.Name x p) [b] [] q/\glo C x=some (.py .range)/\dE b=some f:=by
 unfold aJ2 at h
 split at h
 ·rename_i f' as kws q
  split at h
  ·rename_i hk
   obtain⟨⟨x,p⟩,h1,h⟩:=zBd h
   obtain⟨b,h2,h⟩:=zBd h
   split at h
   ·rename_i e1 e2
    exact⟨x,p,b,q,by rw [b8 h1,dM h2,List.isEmpty_iff.mp hk],e2,h⟩
   ·cases h
  ·cases h
 ·cases h
theorem aCm {dL:Expr->Option F} {C:SK.Ctx} {a:Expr} {f:F} (h:aFp dL C a=some f): ∃ x p b q,a= .Call (.Name x p) [b] [] q/\glo C x=some (.py .set)/\dL b=some f:=by
 unfold aFp at h
 split at h
 ·rename_i f' as kws q
  split at h
  ·rename_i hk
   obtain⟨⟨x,p⟩,h1,h⟩:=zBd h
   obtain⟨b,h2,h⟩:=zBd h
   split at h
   ·rename_i e1 e2
    exact⟨x,p,b,q,by rw [b8 h1,dM h2,List.isEmpty_iff.mp hk],e2,h⟩
   ·cases h
  ·cases h
 ·cases h
theorem jH {α:Type} {l:List α} (h:l.isEmpty=true):l=[]:=List.isEmpty_iff.mp h
noncomputable def zS:Expr->Prop
 | .Starred _ _=>False
 | _=>True
theorem bB {e:Expr} {es:List Expr} {env:PySem.Env} (h:zS e):starEach (e::es) env=(false,eval e env)::starEach es env:=by
 cases e<;>first | rfl | exact h.elim
noncomputable def m7:Expr->Prop
 | .Set _ _ _=>False
 | _=>True
theorem aLl {C:SK.Ctx} {op:CmpOp} {e:Expr} {i:Nat} (h:inN C op e=some i): ∃ x p,e= .Name x p/\loc C x=some i:=by
 unfold inN at h
 split at h
 ·obtain⟨⟨x,p⟩,h1,h2⟩:=zBd h
  cases b8 h1
  exact⟨x,p,rfl,h2⟩
 ·cases h
theorem iV {e:Expr} {op:CmpOp} (h:m7 e):behindInMarks op e=false:=by
 cases e<;>first | rfl | exact h.elim
theorem qP {b c:Expr} {op op':CmpOp} (h:m7 c):lastMarks [op,op'] [b,c]=false:=by
 show behindInMarks op' c=false
 exact iV h
theorem aCn {e:Expr} (h: ∀ a b c d,e≠ .Slice a b c d):wY e:=by
 intro o i
 cases e<;>first | rfl | exact absurd rfl (h _ _ _ _)
theorem aX {n:Nat} {C:SK.Ctx} {e:Expr} {f:F} (h:cU n C e=some f):zS e/\m7 e/\ ∀ a b c d,e≠ .Slice a b c d:=by
 cases n with
 | zero=>cases h
 | succ n=>cases e<;>first | (cases h;done) | (refine⟨trivial,trivial, ?_⟩;intro a b c d z;cases z;done)
theorem bY {n:Nat} {C:SK.Ctx} {e:Expr} {f:F} (h:tM n C e=some f):zS e/\m7 e:=by
 cases n with
 | zero=>cases h
 | succ n=>
  by_cases hn: ∃ x p,e= .Name x p
  ·obtain⟨x,p,rfl⟩:=hn
   exact⟨trivial,trivial⟩
  ·have:cU n C e=some f:=by
    rw [<-h]
    cases e<;>first | rfl | exact absurd ⟨_,_,rfl⟩ hn
   exact⟨(aX this).1,(aX this).2.1⟩
theorem qQ {n:Nat} {C:SK.Ctx} {tt:Bool} {e:Expr} {f:F} (h:aFr n C tt e=some f):m7 e:=by
 cases n with
 | zero=>cases h
 | succ n=>cases e<;>first | trivial | exact(bY h).2
section
variable {ad:Ad}
def aAy (ad:Ad) (n:Nat):Prop:= ∀ (X:Cx) (C:SK.Ctx) (e:Expr) (f:F),CtxOk X ad C->cU n C e=some f->ME X ad e f/\MT X ad e f/\ ∀ op es p,e= .BoolOp op es p->MW X ad e f
def aIo (ad:Ad) (n:Nat):Prop:= ∀ (X:Cx) (C:SK.Ctx) (e:Expr) (f:F),CtxOk X ad C->tM n C e=some f->ML X ad e f
def aLm (ad:Ad) (n:Nat):Prop:= ∀ (X:Cx) (C:SK.Ctx) (tg e:Expr) (tt:Bool) (f:F),CtxOk X ad C->(tt=true-> ∃ es k p,tg= .Tuple es k p)->aFr n C tt e=some f->MI X ad tg e f/\(tt=false->(∀ x p,e≠ .Name x p)->MIG X ad tg e f)
variable {X:Cx} {C:SK.Ctx} {n:Nat}
theorem aCo (hE:aAy ad n) (O:CtxOk X ad C): ∀ {es:List Expr} {fs:List F},iM (cU n C) es=some fs->MA X ad es fs/\ ∀ e∈es,zS e
 | [],fs,h=>by
  cases h
  exact⟨aD8,fun _ h=>by cases h⟩
 | e::es,fs,h=>by
  unfold iM at h
  cases e1:cU n C e with
  | none=>rw [e1] at h;cases h
  | some f=>
   rw [e1] at h
   obtain⟨r,h1,h2⟩:=zMd h
   subst h2
   obtain⟨q1,q2⟩:=aCo hE O h1
   have ns:=(aX e1).1
   exact⟨rZ (hE X C e f O e1).1 q1 (bB ns),fun a ha=>by
    rcases aq.mp ha with rfl | ha
    ·exact ns
    ·exact q2 a ha⟩
theorem oP {α β:Type} {f:α->Option β}: ∀ {l:List α} {r:List β},iM f l=some r->r.length=l.length
 | [],r,h=>by cases h;rfl
 | x::l,r,h=>by
  unfold iM at h
  cases e:f x with
  | none=>rw [e] at h;cases h
  | some y=>
   rw [e] at h
   obtain⟨r',h1,h2⟩:=zMd h
   subst h2
   simp [oP h1]
theorem uS {env:PySem.Env} {pos:Pos}: ∀ {es:List Expr},(∀ e∈es,zS e)->(backTo pos (starEach es env)).any (·.1)=false
 | [],_=>rfl
 | e::es,h=>by
  rw [bB (h e (.head _))]
  show(false||(backTo pos (starEach es env)).any (·.1))=false
  rw [uS fun a ha=>h a (.tail _ ha)]
  rfl
theorem aNx (hE:aAy ad n) (hL:aIo ad n) (O:CtxOk X ad C) {x:Str} {p:Py} {as:List Expr} {f:F} {np pos:Pos} (hg:glo C x=some (.py p)) (h:aFq (cU n C) (tM n C) C p as=some f):ME X ad (.Call (.Name x np) as [] pos) f:=by
 obtain⟨g1,g2,g3,g4⟩:=O.gl hg
 unfold aFq at h
 split at h
 ·have hx:=zBd h
  clear h
  obtain⟨a,h0,h⟩:=hx
  cases dM h0
  obtain⟨fa,h1,rfl⟩:=zMd h
  subst g3
  exact jA aF3 g1 g4 (by decide+kernel) (hL X C _ fa O h1) (by decide) g2 (bB (bY h1).1)
 ·have hx:=zBd h
  clear h
  obtain⟨a,h0,h⟩:=hx
  cases dM h0
  obtain⟨fa,h1,rfl⟩:=zMd h
  subst g3
  exact xJ aF4 g1 g4 (by decide+kernel) (hL X C _ fa O h1) (by decide) g2 (bB (bY h1).1)
 ·have hx:=zBd h
  clear h
  obtain⟨a,h0,h⟩:=hx
  cases dM h0
  obtain⟨fa,h1,rfl⟩:=zMd h
  subst g3
  exact xJ xK g1 g4 (by decide+kernel) (hL X C _ fa O h1) (by decide) g2 (bB (bY h1).1)
 ·have hx:=zBd h
  clear h
  obtain⟨a,h0,h⟩:=hx
  cases dM h0
  obtain⟨fa,h1,rfl⟩:=zMd h
  subst g3
  exact xJ aBj g1 g4 (by decide+kernel) (hL X C _ fa O h1) (by decide) g2 (bB (bY h1).1)
 ·have hx:=zBd h
  clear h
  obtain⟨a,h0,h⟩:=hx
  cases dM h0
  obtain⟨fa,h1,rfl⟩:=zMd h
  subst g3
  exact jA (aF6 O.hd) g1 g4 (by decide+kernel) (hL X C _ fa O h1) (by decide) g2 (bB (bY h1).1)
 ·have hx:=zBd h
  clear h
  obtain⟨a,h0,h⟩:=hx
  cases dM h0
  obtain⟨fa,h1,rfl⟩:=zMd h
  subst g3
  exact jA (aF7 O.hd) g1 g4 (by decide+kernel) (hL X C _ fa O h1) (by decide) g2 (bB (bY h1).1)
 ·cases h
 ·have hx:=zBd h
  clear h
  obtain⟨a,h0,h⟩:=hx
  cases dM h0
  obtain⟨fa,h1,rfl⟩:=zMd h
  subst g3
  exact jA aF5 g1 g4 (by decide+kernel) (hL X C _ fa O h1) (by decide) g2 (bB (bY h1).1)
 ·have hx:=zBd h
  clear h
  obtain⟨a,h0,h⟩:=hx
  cases dM h0
  subst g3
  cases h1:tM n C a with
  | some fa=>
   rw [h1] at h
   cases h
   exact jA (v7 O.un) g1 g4 (by decide+kernel) (hL X C _ fa O h1) (by decide) g2 (bB (bY h1).1)
  | none=>
   rw [h1] at h
   obtain⟨fa,h2,rfl⟩:=zMd h
   obtain⟨y,yp,b,yq,rfl,e1,e2⟩:=aCm h2
   obtain⟨r1,r2,r3,r4⟩:=O.gl e1
   subst r3
   exact oM r1 r4 g1 g4 O.hd O.un (hL X C _ fa O e2) (bB (bY e2).1)
 ·cases h
 ·split at h
  ·rename_i a
   obtain⟨fa,h1,rfl⟩:=zMd h
   subst g3
   exact jA (aB9 O.hd) g1 g4 (by decide+kernel) (hL X C _ fa O h1) (by decide) g2 (bB (bY h1).1)
  ·have hx:=zBd h
   clear h
   obtain⟨⟨a,b⟩,h0,h⟩:=hx
   cases zQ h0
   obtain⟨fa,h1,h⟩:=zBd h
   obtain⟨fb,h2,rfl⟩:=zMd h
   subst g3
   exact vS (r:=aOp) (op:=fun i j=>if j > i then j else i) (fun _ _=>rfl) (fun x y Q E G H k=>by cases x<;>cases y<;>first | exact⟨_,_,rfl,rfl⟩ | exact k.elim) (wT O.calm) g1 g4 (by decide+kernel) (hE X C _ fa O h1).1 (hE X C _ fb O h2).1 (by decide) g2 (bB (aX h1).1) (bB (aX h2).1)
 ·have hx:=zBd h
  clear h
  obtain⟨⟨a,b⟩,h0,h⟩:=hx
  cases zQ h0
  have hx:=zBd h
  clear h
  obtain⟨⟨tn,tp⟩,hv,h⟩:=hx
  cases b8 hv
  obtain⟨fa,h1,h⟩:=zBd h
  obtain⟨g,h2,h⟩:=zBd h
  obtain⟨P,h3,rfl⟩:=zMd h
  subst g3
  obtain⟨cv,c1,c2⟩:=aKv O h2 h3
  exact aGs O.exc g1 g4 c1 c2 (hE X C _ fa O h1).1 (bB (aX h1).1)
 ·cases h
theorem wM {e:Expr} {f:F} (h:ME X ad e f) (ht: ∀ whole,isTrue e X.env whole=(do let v<-whole;standAt e.pos;holding [v] (truthy v))) (hb: ∀ op es p,e≠ .BoolOp op es p):ME X ad e f/\MT X ad e f/\ ∀ op es p,e= .BoolOp op es p->MW X ad e f:=
 ⟨h,aJ9 h ht,fun op es p z=>absurd z (hb op es p)⟩
theorem aCp {e:Expr} {f:F} (h:MW X ad e f):MT X ad e f:=fun pins s σ H Q I t=>h _ pins s σ H Q I t
theorem aLn {tg:Expr} {xs:List Str} {k:Nat} (h:dU tg=some (xs,k)):xs.length=(if k=0 then 1 else k)/\((k != 0)=true-> ∃ es j p,tg= .Tuple es j p):=by
 cases tg<;>try (cases h;done)
 ·cases h
  exact⟨rfl,fun z=>absurd z (by decide)⟩
 ·rename_i es j p
  unfold dU at h
  obtain⟨ys,e1,e2⟩:=zBd h
  by_cases hl:2<=ys.length
  ·rw [if_pos hl] at e2
   cases e2
   exact⟨by rw [if_neg (by omega)],fun _=>⟨es,j,p,rfl⟩⟩
  ·rw [if_neg hl] at e2
   cases e2
theorem m8 (hE:aAy ad n) (hI:aLm ad n) (O:CtxOk X ad C) {elt tg it:Expr} {ifs:List Expr} {sc:Scope} {pos:Pos} {f:F} (h:cU (n+1) C (.ListComp elt [⟨tg,it,ifs,0⟩] sc pos)=some f):
  ∃ xs k cs fi fc fe,f=aF k cs fi fc fe/\CompSc X C sc xs cs/\MI X ad tg it fi/\(∀ a b c,it≠ .Set a b c)/\xs.length=(if k=0 then 1 else k)/\(∀ fp s3 H3 pins',PG (cX X (xs++bO sc) sc s3 H3 fp pins') tg (gTg X.K k))/\
   (∀ fp s3 H3 pins',MTs (cX X (xs++bO sc) sc s3 H3 fp pins') ad ifs fc)/\ ∀ fp s3 H3 pins',ME (cX X (xs++bO sc) sc s3 H3 fp pins') ad elt fe:=by
 have h':((dU tg).bind fun(xs,k)=>(aFr n C (k != 0) it).bind fun fi=>if kQ sc xs then
    (iM (fun x=>fV C x) (bO sc)).bind fun cs=>(match ifs with
    | []=>some none
    | [c]=>(cU n { C with sc:=sc,N:=xs++bO sc } c).map some
    | _=>none).bind fun c=>(cU n { C with sc:=sc,N:=xs++bO sc } elt).map fun e=>aF k cs fi c e
   else none)=some f:=h
 clear h
 obtain⟨⟨xs,k⟩,e1,h⟩:=zBd h'
 obtain⟨fi,e2,h⟩:=zBd h
 obtain⟨l1,l2⟩:=aLn e1
 by_cases hc:kQ sc xs=true
 ·rw [if_pos hc] at h
  obtain⟨cs,e3,h⟩:=zBd h
  obtain⟨fc,e4,h⟩:=zBd h
  obtain⟨fe,e5,e6⟩:=zMd h
  obtain⟨c1,c2,c3,c4,c5,c6,c7⟩:=jC hc
  have inn: ∀ fp s3 H3 pins',CtxOk (cX X (xs++bO sc) sc s3 H3 fp pins') ad { C with sc:=sc,N:=xs++bO sc }:=fun fp s3 H3 pins'=>aKw O hc e3
  refine⟨xs,k,cs,fi,fc,fe,e6.symm,x9 O hc e3,(hI X C tg it _ fi O l2 e2).1,fun a b c z=> ?_,l1,fun fp s3 H3 pins'=> ?_,fun fp s3 H3 pins'=> ?_,fun fp s3 H3 pins'=>(hE _ _ elt fe (inn fp s3 H3 pins') e5).1⟩
  ·subst z
   exact qQ e2
  ·by_cases hcel:pS sc=[]
   case neg=>
    rcases c2 with z | ⟨z,l⟩
    ·exact absurd z hcel
    ·obtain⟨x,rfl⟩:=List.length_eq_one_iff.mp l
     refine aGu (X:=cX X ([x]++bO sc) sc s3 H3 fp pins') (x:=x) c5 e1 rfl rfl ?_ (decide_eq_true z)
     show(relabel sc X.env).names.lookup x=some .cell
     have e7:=b6 (env:=X.env) (x:=x) (names:=sc.names)
     rw [c3 x (.head _),z] at e7
     exact e7
   refine aNk (X:=cX X (xs++bO sc) sc s3 H3 fp pins') O.calm c5 e1 fun i x hx=>⟨?_, ?_⟩
   ·show(xs++bO sc)[i]? =some x
    rw [bt (aw.mp hx).1]
    exact hx
   ·show(relabel sc X.env).names.lookup x=some .local
    have e7:=b6 (env:=X.env) (x:=x) (names:=sc.names)
    rw [c3 x (List.mem_of_getElem? hx),hcel] at e7
    exact e7
  ·split at e4
   ·cases e4
    trivial
   ·obtain⟨g,e8,rfl⟩:=zMd e4
    exact(hE _ _ _ g (inn fp s3 H3 pins') e8).2.1
   ·cases e4
 ·rw [if_neg hc] at h
  cases h
theorem aNy (hE:aAy ad n) (hL:aIo ad n) (hI:aLm ad n):aAy ad (n+1):=by
 intro X C e f O h
 unfold cU at h
 split at h
 ·-- a name
  rename_i x pos
  refine wM ?_ (fun _=>rfl) (fun _ _ _ z=>nomatch z)
  cases e1:loc C x with
  | some i=>
   rw [e1] at h
   cases h
   obtain⟨v1,v2,v3,v4⟩:=O.vis x i e1
   exact aD2 v1 v2 v3 v4
  | none=>
   rw [e1] at h
   simp only at h
   split at h
   ·rename_i d e2
    cases h
    obtain⟨g1,g2,u,v,g3,g4,g5⟩:=O.gl e2
    exact xG g1 g3 g4 g5 g2
   ·rename_i k0 n0 f0 e2
    cases h
    obtain⟨g1,g2,r,f,T,hr,hf⟩:=O.gl e2
    subst hf
    exact xG (v:= .ref (ad.fnA k0)) g1 T.mg rfl (fun G=>by unfold Rep;rfl) g2
   ·cases h
 ·obtain⟨d,h1,rfl⟩:=zMd h
  exact wM (nT h1) (fun _=>rfl) (fun _ _ _ z=>nomatch z)
 ·obtain⟨fa,h1,h⟩:=zBd h
  obtain⟨fb,h2,rfl⟩:=zMd h
  exact wM (aJ5 (hE X C _ fa O h1).1 (hE X C _ fb O h2).1) (fun _=>rfl) (fun _ _ _ z=>nomatch z)
 ·obtain⟨fa,h1,h⟩:=zBd h
  obtain⟨q1,q2,_⟩:=hE X C _ fa O h1
  split at h
  ·cases h;exact⟨aJ6 q1,aKb q2,fun _ _ _ z=>nomatch z⟩
  ·cases h;exact wM (aD3 q1) (fun _=>rfl) (fun _ _ _ z=>nomatch z)
  ·cases h
 ·rename_i op es pos
  split at h
  ·rename_i a b
   obtain⟨fa,h1,h⟩:=zBd h
   obtain⟨fb,h2,rfl⟩:=zMd h
   obtain⟨q1,q2,_⟩:=hE X C _ fa O h1
   obtain⟨r1,r2,_⟩:=hE X C _ fb O h2
   cases op with
   | And=>
    have W:MW X ad (.BoolOp .And [a,b] pos) (gX fa fb):=aD6 q2 (aD7 r2)
    exact⟨aD4 q1 (aD5 r1),aCp W,fun _ _ _ _=>W⟩
   | Or=>
    have W:MW X ad (.BoolOp .Or [a,b] pos) (rOr fa fb):=aKd q2 (aD7 r2)
    exact⟨aJ8 q1 (aD5 r1),aCp W,fun _ _ _ _=>W⟩
  ·rename_i a b c r
   obtain⟨fa,h1,h⟩:=zBd h
   obtain⟨fb,h2,rfl⟩:=zMd h
   obtain⟨q1,q2,_⟩:=hE X C _ fa O h1
   obtain⟨r1,r2,r3⟩:=hE X C _ fb O h2
   cases op with
   | And=>
    have W:MW X ad (.BoolOp .And (a::b::c::r) pos) (gX fa fb):=aD6 q2 (r3 _ _ _ rfl)
    exact⟨aD4 q1 r1,aCp W,fun _ _ _ _=>W⟩
   | Or=>
    have W:MW X ad (.BoolOp .Or (a::b::c::r) pos) (rOr fa fb):=aKd q2 (r3 _ _ _ rfl)
    exact⟨aJ8 q1 r1,aCp W,fun _ _ _ _=>W⟩
  ·cases h
 ·split at h
  ·have hx:=zBd h
   clear h
   obtain⟨b,h0,h⟩:=hx
   cases dM h0
   obtain⟨fa,h1,h⟩:=zBd h
   have look: ∀ {e:Expr} {g:F},(if bsN C e=true then tM n C e else cU n C e)=some g->MLk X ad e g/\m7 e:=fun {e g} h=>by
    split at h
    ·exact⟨(hL X C _ g O h).lk,(bY h).2⟩
    ·exact⟨(hE X C _ g O h).1.look,(aX h).2.1⟩
   have la:=(look h1).1
   split at h
   ·rename_i i hi
    cases h
    obtain⟨x,p,rfl,e1⟩:=aLl hi
    obtain⟨v1,v2,v3,v4⟩:=O.vis x i e1
    exact⟨aLj v1 v2 v3 v4 O.un la (iV trivial),aLk v1 v2 v3 v4 O.un la (iV trivial),fun _ _ _ z=>nomatch z⟩
   ·obtain⟨fb,h2,rfl⟩:=zMd h
    obtain⟨lb,m⟩:=look h2
    exact⟨aHh O.un la lb (iV m),aHi O.un la lb (iV m),fun _ _ _ z=>nomatch z⟩
  ·have hx:=zBd h
   clear h
   obtain⟨⟨b,c⟩,h0,h⟩:=hx
   cases zQ h0
   obtain⟨fa,h1,h⟩:=zBd h
   obtain⟨fb,h2,h⟩:=zBd h
   obtain⟨fc,h3,rfl⟩:=zMd h
   exact⟨aBg O.un (hE X C _ fa O h1).1 (hE X C _ fb O h2).1 (hE X C _ fc O h3).1 (qP (aX h3).2.1),aBh O.un (hE X C _ fa O h1).1 (hE X C _ fb O h2).1 (hE X C _ fc O h3).1 (qP (aX h3).2.1),fun _ _ _ z=>nomatch z⟩
  ·cases h
 ·obtain⟨fc,h1,h⟩:=zBd h
  obtain⟨fa,h2,h⟩:=zBd h
  obtain⟨fb,h3,rfl⟩:=zMd h
  obtain⟨c1,c2,_⟩:=hE X C _ fc O h1
  obtain⟨a1,a2,_⟩:=hE X C _ fa O h2
  obtain⟨b1,b2,_⟩:=hE X C _ fb O h3
  have c3:=aNq c1 c2
  exact⟨aBi c3 a1 b1,aB6 c3 a2 b2,fun _ _ _ z=>nomatch z⟩
 ·split at h
  ·rename_i hl
   obtain⟨fs,h1,rfl⟩:=zMd h
   exact wM (aKe (aCo hE O h1).1 (by rw [oP h1];exact hl)) (fun _=>rfl) (fun _ _ _ z=>nomatch z)
  ·cases h
 ·split at h
  ·rename_i hl
   obtain⟨fs,h1,rfl⟩:=zMd h
   exact wM (aKf (aCo hE O h1).1 (by rw [oP h1];exact hl)) (fun _=>rfl) (fun _ _ _ z=>nomatch z)
  ·cases h
 ·-- o[..]
  rename_i a b pos
  have hx:=zBd h
  clear h
  obtain⟨fa,h1,h⟩:=hx
  split at h
  ·rename_i lo hi hv
   obtain⟨p,rfl⟩:=zR hv
   obtain⟨fl,h2,h⟩:=zBd h
   obtain⟨fh,h3,rfl⟩:=zMd h
   refine wM (aKh (hL X C _ fa O h1).lk ?_ ?_) (fun _=>rfl) (fun _ _ _ z=>nomatch z)
   ·split at h2
    ·cases h2;trivial
    ·obtain⟨k,h4,rfl⟩:=zMd h2
     exact(hE X C _ k O h4).1
   ·split at h3
    ·cases h3;trivial
    ·obtain⟨k,h4,rfl⟩:=zMd h3
     exact(hE X C _ k O h4).1
  ·split at h
   ·rename_i hv
    cases h
    obtain⟨j,p2,p3,p4,rfl⟩:=aHk hv
    exact wM (aK0 (hL X C _ fa O h1).lk) (fun _=>rfl) (fun _ _ _ z=>nomatch z)
   split at h
   ·rename_i l hv
    obtain⟨fb,h2,rfl⟩:=zMd h
    obtain⟨j,p2,p4,rfl⟩:=aCl hv
    exact wM (aGz (hL X C _ fa O h1).lk (hE X C _ fb O h2).1) (fun _=>rfl) (fun _ _ _ z=>nomatch z)
   obtain⟨fb,h2,rfl⟩:=zMd h
   exact wM (aNi (hL X C _ fa O h1).lk (hE X C _ fb O h2).1 (aCn (aX h2).2.2)) (fun _=>rfl) (fun _ _ _ z=>nomatch z)
 ·-- a comprehension
  rename_i elt gens sc pos
  refine wM ?_ (fun _=>rfl) (fun _ _ _ z=>nomatch z)
  split at h
  ·rename_i tg it ifs as
   split at h
   ·rename_i ha
    subst ha
    obtain⟨xs,k,cs,fi,fc,fe,rfl,S,hi,hset,hxs,hg,hts,he⟩:=m8 (pos:=pos) hE hI O h
    exact aGb O.calm S hi hset hxs hg hts he
   ·cases h
  ·cases h
 ·-- a call
  rename_i f' as kws pos
  refine wM ?_ (fun _=>rfl) (fun _ _ _ z=>nomatch z)
  split at h
  ·rename_i hkw
   cases jH hkw
   split at h
   ·rename_i x np
    split at h
    ·cases h
    ·split at h
     ·rename_i k1 k2 fn e2
      by_cases hem:as.isEmpty=true
      ·rw [if_pos hem] at h;cases h
      rw [if_neg hem] at h
      obtain⟨fs,h1,h⟩:=zBd h
      split at h
      ·rename_i hk
       cases h
       obtain⟨g1,g2,r,fa,T,hr,_⟩:=O.gl e2
       obtain⟨q1,q2⟩:=aCo hE O h1
       cases as with
       | nil=>exact absurd rfl hem
       | cons a es=>exact aF9 T hr g1 g2 q1 hk (bB (q2 a (.head _))) (uS fun e he=>q2 e (.tail _ he))
      ·cases h
     ·rename_i p e2
      exact aNx hE hL O e2 h
     ·cases h
   ·rename_i o m ap
    have hx:=zBd h
    clear h
    obtain⟨a,h0,h⟩:=hx
    cases dM h0
    split at h
    ·rename_i hc
     rw [au] at hc
     obtain⟨fo,h1,h⟩:=zBd h
     obtain⟨fa,h2,h⟩:=zBd h
     have base: ∀ m,attributeBase o m X.env (eval o X.env)=eval o X.env:=by
      intro m
      have h0:=hc.1
      cases o<;>first | rfl | (cases h0;done)
     split at h
     ·rename_i hm
      cases h
      subst hm
      exact aB1 O.un (hL X C _ fo O h1) (hE X C _ fa O h2).1 (bB (aX h2).1) (base _) hc.2
     ·split at h
      ·rename_i hm
       cases h
       subst hm
       exact aB2 O.un (hL X C _ fo O h1) (hE X C _ fa O h2).1 (bB (aX h2).1) (base _) hc.2
      ·cases h
    ·cases h
   ·cases h
  ·cases h
 ·cases h
theorem aNz (hE:aAy ad n):aIo ad (n+1):=by
 intro X C e f O h
 unfold tM at h
 split at h
 ·rename_i x p
  cases e1:loc C x with
  | some i=>
   rw [e1] at h
   cases h
   obtain⟨v1,v2,v3,v4⟩:=O.vis x i e1
   exact aF2 v1 v2 v3 v4
  | none=>
   rw [e1] at h
   exact(hE X C _ f O h).1.ml
 ·exact(hE X C _ f O h).1.ml
theorem aHl (hE: ∀ m,m<n->aAy ad m) {X:Cx} {C:SK.Ctx} {e:Expr} {f:F} (O:CtxOk X ad C) (hn: ∀ x p,e≠ .Name x p) (h:tM n C e=some f):ME X ad e f:=by
 cases n with
 | zero=>cases h
 | succ n=>
  have:cU n C e=some f:=by
   rw [<-h]
   cases e<;>first | rfl | exact absurd rfl (hn _ _)
  exact(hE n (Nat.lt_succ_self _) X C e f O this).1
theorem aN0 (hE: ∀ m,m<n+1->aAy ad m) (hL:aIo ad n):aLm ad (n+1):=by
 intro X C tg e tt f O htt h
 have hEn:=hE n (Nat.lt_succ_self _)
 unfold aFr at h
 have it: ∀ {x:Str} {as:List Expr} {np q:Pos},xD (cU n C) C tt x as=some f->MI X ad tg (.Call (.Name x np) as [] q) f/\(tt=false->MIG X ad tg (.Call (.Name x np) as [] q) f):=by
  intro x as np q h
  unfold xD at h
  split at h
  ·rename_i a eg
   obtain⟨fa,h1,rfl⟩:=zMd h
   obtain⟨g1,g2,g3,g4⟩:=O.gl eg
   subst g3
   have me:=(hEn X C _ fa O h1).1
   exact⟨aBp g1 g4 me (bB (aX h1).1),fun _=>xW g1 g4 me (bB (aX h1).1)⟩
  ·rename_i a b eg
   split at h
   ·rename_i ht
    obtain⟨fa,h1,h⟩:=zBd h
    obtain⟨fb,h2,rfl⟩:=zMd h
    obtain⟨g1,g2,g3,g4⟩:=O.gl eg
    subst g3
    obtain⟨es,k,p,rfl⟩:=htt ht
    have ma:=(hEn X C _ fa O h1).1
    have mb:=(hEn X C _ fb O h2).1
    exact⟨aKy g1 g4 ma mb (bB (aX h1).1) (bB (aX h2).1),fun z=>by rw [ht] at z;cases z⟩
   ·cases h
  ·rename_i a eg
   split at h
   ·rename_i ht
    obtain⟨fa,h1,rfl⟩:=zMd h
    obtain⟨g1,g2,g3,g4⟩:=O.gl eg
    subst g3
    obtain⟨es,k,p,rfl⟩:=htt ht
    have ma:=(hEn X C _ fa O h1).1
    exact⟨aGy g1 g4 ma (bB (aX h1).1),fun z=>by rw [ht] at z;cases z⟩
   ·cases h
  ·cases h
 split at h
 ·rename_i f' as kws q
  split at h
  ·rename_i x p
   split at h
   ·exact⟨(it h).1,fun z _=>(it h).2 z⟩
   ·exact⟨(it h).1,fun z _=>(it h).2 z⟩
   ·exact⟨(it h).1,fun z _=>(it h).2 z⟩
   ·have me:=(hEn X C _ f O h).1
    exact⟨xT me.ml,fun _ _=>oC me⟩
  ·have me:=(hEn X C _ f O h).1
   exact⟨xT me.ml,fun _ _=>oC me⟩
 ·refine⟨xT (hL X C _ f O h),fun _ hn=>oC (aHl (fun m hm=>hE m (by omega)) O hn h)⟩
theorem sM: ∀ n,aAy ad n/\aIo ad n/\aLm ad n:=by
 have main: ∀ n, ∀ m,m<=n->aAy ad m/\aIo ad m/\aLm ad m:=by
  intro n
  induction n with
  | zero=>
   intro m hm
   have:m=0:=by omega
   subst this
   refine⟨?_, ?_, ?_⟩
   ·intro X C e f O h
    unfold cU at h
    cases h
   ·intro X C e f O h
    unfold tM at h
    cases h
   ·intro X C tg e tt f O _ h
    unfold aFr at h
    cases h
  | succ n ih=>
   intro m hm
   by_cases hmn:m<=n
   ·exact ih m hmn
   ·have:m=n+1:=by omega
    subst this
    obtain⟨a,b,c⟩:=ih n (aj _)
    exact⟨aNy a b c,aNz a,aN0 (fun m hm=>(ih m (by omega)).1) b⟩
 exact fun n=>main n n (aj _)
end
noncomputable abbrev aMh:List Value:=[.type "ValueError", .type "Exception", .type "BaseException", .type "object"]
structure StOk (X:Cx) (ad:Ad) (C:SK.Ctx):Prop where
 cx:CtxOk X ad C
 fn: ∀ x,X.fn x=true
 sc:X.env.scope=C.sc
 lc: ∀ x i,loc C x=some i->Loc X.env.scope x
 fr:Fram X
 exm: ∀ c,exmOne X.K (.ref (ad.cls c)) (.ref (ad.cls 0))=some true
 exi: ∀ c,excIn X.K (ad.cls c) aMh "ValueError.__new__"=true
noncomputable def Zt (ad:Ad) (E₀:XK) (t:Bool):(St->Nat->Hp->Prop)->Prop:=fun E=>t=false-> ∀ σ c H,E σ c H->E₀ (.ref (ad.cls c)) none H
section
variable {X:Cx} {ad:Ad} {C:SK.Ctx} {E₀:XK} {t:Bool} {e it tg:Expr} {f:F} {g h:FS} {x:Str} {i:Nat} {pos pos':Pos} {st:Stmt}
theorem StOk.nm (O:StOk X ad C) (h:loc C x=some i):aIm X x i:=⟨(O.cx.vis x i h).1,O.lc x i h, .inl (O.fn x)⟩
theorem StOk.nms (O:StOk X ad C): ∀ {xs:List Str} {is:List Nat},iM (fun x=>loc C x) xs=some is->NmsOk X xs is
 | [],_,h=>by cases h;exact .nil
 | x::xs,is,h=>by
  unfold iM at h
  cases e:loc C x with
  | none=>rw [e] at h;cases h
  | some j=>
   rw [e] at h
   obtain⟨r,h1,h2⟩:=zMd h
   subst h2
   exact .cons (O.nm e) (O.nms h1)
theorem v9 {elt:Expr} {gens:List Comprehension} {sc:Scope} {cpos:Pos} {line:Nat} {env:PySem.Env}: ∃ b,swapsWith (.ListComp elt gens sc cpos) (some (.Name x pos')) line env=pure b:=⟨_,rfl⟩
theorem aEl (O:StOk X ad C) (h:cU 50 C e=some f) (hi:loc C x=some i):PS X (.Assign [.Name x pos'] e pos) (aIi (tE X ad f) (kH i)):=by
 obtain⟨h1,h2,h3⟩:=sM (ad:=ad) 49
 obtain⟨k1,_,_⟩:=sM (ad:=ad) 50
 have nm:=O.nm hi
 have me:=(k1 X C e f O.cx h).1
 by_cases hc: ∃ elt gens sc cpos,e= .ListComp elt gens sc cpos
 ·obtain⟨elt,gens,sc,cpos,rfl⟩:=hc
  obtain⟨b,hb⟩:=v9 (x:=x) (pos':=pos') (elt:=elt) (gens:=gens) (sc:=sc) (cpos:=cpos) (line:=pos.line) (env:=X.env)
  cases b with
  | false=>exact aDp O.cx.nd nm.1 nm.2.1 me hb nm.2.2
  | true=>
   have hgen: ∃ tg it ifs,gens=[⟨tg,it,ifs,0⟩]:=by
    unfold cU at h
    simp only at h
    split at h
    ·rename_i tg it ifs as
     split at h
     ·rename_i ha
      subst ha
      exact⟨_,_,_,rfl⟩
     ·cases h
    ·cases h
   obtain⟨tg,it,ifs,rfl⟩:=hgen
   obtain⟨xs,k,cs,fi,fc,fe,rfl,S,hi',hset,hxs,hg,hts,he⟩:=m8 h1 h3 O.cx h
   exact aGo O.cx.nd nm O.cx.calm S hi' hset hxs hg hts he hb
 ·refine aDp O.cx.nd nm.1 nm.2.1 me ?_ nm.2.2
  have nf:=aX h
  cases e<;>first | rfl | exact absurd ⟨_,_,_,_,rfl⟩ hc | (unfold cU at h;cases h;done)
theorem aHm {Z:(St->Nat->Hp->Prop)->Prop} (P:PS X st (aIi (tE X ad f) (kH i))):MS X ad Z st (b7 i f):=by
 refine PS.imp P ?_
 rintro D' σ H ⟨G₀,G,ρ,E,S,hx,hr⟩
 exact mQ S hx hr fun v d G1 H1 st r k=>k _ G1 H1 ((S.step st).set r)
theorem aHn {Z:(St->Nat->Hp->Prop)->Prop} (P:PS X st (aIi (tE X ad f) (kH i))):MS X ad Z st (jP i f):=by
 refine PS.imp P ?_
 rintro D' σ H ⟨G₀,G,ρ,E,S,hx,hr⟩
 exact aKl S hx hr
theorem aCq {pins:List (Addr×Obj)} {D':Ends} {hd:ExceptHandler} (O:StOk X ad C):StOk (tX X pins D' hd) ad C:=by
 refine⟨⟨O.cx.N,O.cx.nd,O.cx.vis,O.cx.gk,fun x g e=> ?_,O.cx.cap,O.cx.calm,O.cx.un,O.cx.hd,O.cx.exc,O.cx.kin,O.cx.kve,fun j n F e=>let ⟨r,T,hr⟩:=O.cx.fnv j n F e;⟨r,⟨T.kp,T.ok⟩,hr⟩⟩,O.fn,O.sc,O.lc,⟨O.fr.ex,O.fr.stk,O.fr.fr⟩,O.exm,O.exi⟩
 obtain⟨e1,e2⟩:=O.cx.gt x g e
 refine⟨e1, ?_⟩
 cases g with
 | fn k n F=>
  obtain⟨r,f,T,hr,hf⟩:=e2
  exact⟨r,f,⟨T.mg,T.kp,T.ok⟩,hr,hf⟩
 | exc c=>exact e2
 | verr=>exact e2
 | val d=>exact e2
 | py p=>exact e2
theorem aCr {e:Expr} (h:aJ1 e=true): ∃ s k p,e= .Constant (.str s) k p:=by
 cases e<;>try (cases h;done)
 rename_i c k p
 cases c<;>try (cases h;done)
 exact⟨_,k,p,rfl⟩
theorem aHo {hs:List ExceptHandler} {i j:Nat} (h:aNc C hs=some (i,j)): ∃ cx p1 e x p2 p3 p4 p5,hs=[.ExceptHandler (some (.Name cx p1)) (some e) [.Assign [.Name x p2] (.Name e p3) p4] p5]/\glo C cx=some (.exc 0)/\loc C e=some i/\loc C x=some j/\
  (C.sc.names.lookup e==some .local&&i != j&&C.bs.isEmpty)=true:=by
 unfold aNc at h
 split at h
 ·rename_i ty nm b p5
  obtain⟨te,ht,h⟩:=zBd h
  obtain⟨e,hn,h⟩:=zBd h
  obtain⟨⟨cx,p1⟩,h1,h⟩:=zBd h
  obtain⟨s,h2,h⟩:=zBd h
  obtain⟨⟨x,e'⟩,h3,h⟩:=zBd h
  have hb:b=[s]:=by
   unfold aJ3 at h2
   split at h2
   ·cases h2;rfl
   ·cases h2
  obtain⟨p2,p3,p4,hs'⟩: ∃ p2 p3 p4,s= .Assign [.Name x p2] (.Name e' p3) p4:=by
   unfold aOy at h3
   split at h3
   ·rename_i ts ee p4
    obtain⟨tt,k1,h3⟩:=zBd h3
    obtain⟨⟨x',p2⟩,k2,h3⟩:=zBd h3
    obtain⟨⟨y',p3⟩,k3,h3⟩:=zMd h3
    cases h3
    rw [dM k1,b8 k2,b8 k3]
    exact⟨p2,p3,p4,rfl⟩
   ·cases h3
  dsimp only at h
  split at h
  ·rename_i c e1 e2
   split at h
   ·rename_i hce
    obtain⟨hc0,hee⟩:=hce
    subst hc0 hee
    obtain⟨i',k1,h⟩:=zBd h
    obtain⟨j',k2,h⟩:=zBd h
    split at h
    ·rename_i hc
     cases h
     exact⟨cx,p1,e,x,p2,p3,p4,p5,by rw [ht,hn,b8 h1,hb,hs'],e2,k1,k2,hc⟩
    ·cases h
   ·cases h
  ·cases h
 ·cases h
def aN1 (ad:Ad) (E₀:XK) (n:Nat):Prop:= ∀ (X:Cx) (C:SK.Ctx) (t:Bool) (s:Stmt) (g:FS),StOk X ad C->(t=false->DefX X E₀/\PassesOwn (model X.prog X.w) X.A X.env X.xe)->aFs n t C s=some g->MS X ad (Zt ad E₀ t) s g
def aCs (ad:Ad) (E₀:XK) (n:Nat):Prop:= ∀ (X:Cx) (C:SK.Ctx) (t:Bool) (s:List Stmt) (g:FS),StOk X ad C->(t=false->DefX X E₀/\PassesOwn (model X.prog X.w) X.A X.env X.xe)->j0 n t C s=some g->MSs X ad (Zt ad E₀ t) s g
theorem Zt.imp {Z Z':(St->Nat->Hp->Prop)->Prop} (h:MS X ad Z st g) (k: ∀ E,Z' E->Z E):MS X ad Z' st g:=PS.imp h fun D' σ H ⟨G₀,G,ρ,E,S,hx,hr⟩=>⟨G₀,G,ρ,E,S,⟨hx.1,k E hx.2⟩,hr⟩
theorem Zts.imp {Z Z':(St->Nat->Hp->Prop)->Prop} {sts:List Stmt} (h:MSs X ad Z sts g) (k: ∀ E,Z' E->Z E):MSs X ad Z' sts g:=PSs.imp h fun D' σ H ⟨G₀,G,ρ,E,S,hx,hr⟩=>⟨G₀,G,ρ,E,S,⟨hx.1,k E hx.2⟩,hr⟩
theorem aCt {b:List Stmt} {s:Stmt} (h:aJ3 b=some s):b=[s]:=by
 unfold aJ3 at h;split at h
 ·cases h;rfl
 ·cases h
theorem aHp {s:Stmt} {z:Str} {e:Expr} (h:aNd s=some (z,e)): ∃ p ap cp pos,s= .Expr (.Call (.Attribute (.Name z p) "extend" ap) [e] [] cp) pos/\(ap.endLine==cp.line)=true:=by
 unfold aNd at h
 split at h
 ·rename_i e0 pos
  split at h
  ·rename_i f as kws cp
   split at h
   ·rename_i hk
    split at h
    ·rename_i o m ap
     obtain⟨⟨z',p⟩,h1,h⟩:=zBd h
     obtain⟨e',h2,h⟩:=zBd h
     split at h
     ·rename_i hc
      cases h
      cases b8 h1
      cases dM h2
      cases (List.isEmpty_iff.mp hk)
      exact⟨p,ap,cp,pos,by rw [hc.1],hc.2⟩
     ·cases h
    ·cases h
   ·cases h
  ·cases h
 ·cases h
theorem zT {C:SK.Ctx} {tg it e:Expr} {b:List Stmt} {t i j:Nat} (h:xE C tg it b=some (t,i,j,e)): ∃ x px y py z p ap cp pos,tg= .Name x px/\it= .Name y py/\b=[.Expr (.Call (.Attribute (.Name z p) "extend" ap) [e] [] cp) pos]/\loc C x=some t/\loc C y=some i/\loc C z=some j/\t≠i/\i≠j/\(ap.endLine==cp.line)=true:=by
 unfold xE at h
 obtain⟨⟨x,px⟩,h1,h⟩:=zBd h
 obtain⟨⟨y,py⟩,h2,h⟩:=zBd h
 obtain⟨s,h3,h⟩:=zBd h
 obtain⟨⟨z,e'⟩,h4,h⟩:=zBd h
 obtain⟨t',h5,h⟩:=zBd h
 obtain⟨i',h6,h⟩:=zBd h
 obtain⟨j',h7,h⟩:=zBd h
 split at h
 ·rename_i hc
  cases h
  simp only [au,bne_iff_ne] at hc
  obtain⟨p,ap,cp,pos,rfl,hl⟩:=aHp h4
  exact⟨x,px,y,py,z,p,ap,cp,pos,b8 h1,b8 h2,aCt h3,h5,h6,h7,hc.1.1.2,hc.1.2,hl⟩
 ·cases h
theorem aN2 {n:Nat} (hS:aCs ad E₀ n):aN1 ad E₀ (n+1):=by
 intro X C t s g O hd h
 obtain⟨kE,kL,kI⟩:=sM (ad:=ad) 50
 unfold aFs at h
 split at h
 ·cases h;exact aGf
 ·cases h;exact aBq
 ·cases h;exact sC
 ·-- return
  split at h
  ·cases h;exact aGi
  ·split at h
   ·rename_i x p hv
    cases b8 hv
    split at h
    ·rename_i i e1
     obtain⟨v1,v2,v3,v4⟩:=O.cx.vis x i e1
     split at h
     ·cases h;exact aGj v1 v2 v3 v4
     ·cases h;exact xV (aD2 v1 v2 v3 v4)
    ·obtain⟨f,h1,rfl⟩:=zMd h
     exact xV (kE X C _ f O.cx h1).1
   ·obtain⟨f,h1,rfl⟩:=zMd h
    exact iN (xV (kE X C _ f O.cx h1).1)
 ·-- an assignment
  rename_i ts e pos
  have hx:=zBd h
  clear h
  obtain⟨tg,h0,h⟩:=hx
  cases dM h0
  split at h
  ·-- x=e
   obtain⟨i,h1,h⟩:=zBd h
   obtain⟨f,h2,rfl⟩:=zMd h
   refine iN ?_
   split
   ·exact aHn (aEl O h2 h1)
   ·exact aHm (aEl O h2 h1)
  ·-- x[k]=e
   rename_i o k tp
   have hx:=zBd h
   clear h
   obtain⟨⟨x,p⟩,hv,h⟩:=hx
   cases b8 hv
   obtain⟨i,h1,h⟩:=zBd h
   obtain⟨v1,v2,v3,v4⟩:=O.cx.vis x i h1
   split at h
   ·obtain⟨f,h2,h⟩:=zBd h
    obtain⟨g,h3,rfl⟩:=zMd h
    refine iN (aLi O.cx.un v1 v2 v3 v4 (kE X C _ f O.cx h2).1 (kE X C _ g O.cx h3).1 (fun v=> ?_) ?_ ?_)
    ·have ns:=(aX h3).2.2
     cases k<;>first | rfl | exact absurd rfl (ns _ _ _ _)
    ·cases e<;>rfl
    ·cases e<;>rfl
   ·cases h
  ·cases h
 ·-- an expression
  split at h
  ·rename_i f' as kws cp
   split at h
   ·rename_i hkw
    cases jH hkw
    split at h
    ·-- x.append(e)
     rename_i o m ap
     have hx:=zBd h
     clear h
     obtain⟨⟨x,p⟩,hv,h⟩:=hx
     cases b8 hv
     have hx:=zBd h
     clear h
     obtain⟨e,ho,h⟩:=hx
     cases dM ho
     obtain⟨i,h1,h⟩:=zBd h
     obtain⟨v1,v2,v3,v4⟩:=O.cx.vis x i h1
     split at h
     ·rename_i hc
      rw [au] at hc
      obtain⟨f,h2,h⟩:=zBd h
      have me:=(kE X C _ f O.cx h2).1
      have ns:=bB (es:=[]) (env:=X.env) (aX h2).1
      split at h
      ·rename_i hm
       cases h
       subst hm
       exact iN (aKm v1 v2 v3 v4 me ns hc.2)
      ·split at h
       ·rename_i hm
        cases h
        subst hm
        exact iN (aKn v1 v2 v3 v4 me ns hc.2)
       ·cases h
     ·cases h
    ·obtain⟨f,h1,rfl⟩:=zMd h
     exact iN (aGk (kE X C _ f O.cx h1).1 rfl)
    ·cases h
   ·cases h
  ·cases h
 ·obtain⟨f,h1,h⟩:=zBd h
  obtain⟨ga,h2,h⟩:=zBd h
  obtain⟨gb,h3,rfl⟩:=zMd h
  exact iN (aNl (kE X C _ f O.cx h1).2.1 (hS X C t _ ga O hd h2) (hS X C t _ gb O hd h3))
 ·-- for
  rename_i tg it b els pos
  cases t with
  | true=>cases h
  | false=>
   cases els with
   | cons _ _=>cases h
   | nil=>
    simp only [Bool.false_or,List.isEmpty_nil,Bool.not_true,ax,if_false] at h
    split at h
    ·-- for x in o:p.extend(e)
     rename_i ti i j e hx
     obtain⟨f,h1,rfl⟩:=zMd h
     obtain⟨x,px,y,py,z,p,ap,cp,pos',rfl,rfl,rfl,a1,a2,a3,a4,a5,hl⟩:=zT hx
     obtain⟨v1,v2,v3,v4⟩:=O.cx.vis _ _ a2
     obtain⟨w1,w2,w3,w4⟩:=O.cx.vis _ _ a3
     exact aGp (hd rfl).2 O.cx.calm O.cx.nd v1 v2 v3 v4 w1 w2 w3 w4 (O.nm a1) a4 a5 (kE X C _ f O.cx h1).1 (bB (aX h1).1) hl
    obtain⟨⟨xs,k⟩,h1,h⟩:=zBd h
    obtain⟨f,h2,h⟩:=zBd h
    obtain⟨is,h3,h⟩:=zBd h
    split at h
    ·obtain⟨gb,h4,rfl⟩:=zMd h
     have mig:MIG X ad tg it f/\ ∀ a b c,it≠ .Set a b c:=by
      unfold aOx at h2
      split at h2
      ·exact⟨oC (kE X C _ f O.cx h2).1,fun _ _ _ z=>nomatch z⟩
      ·rename_i hn
       exact⟨(kI X C tg _ false f O.cx (fun z=>nomatch z) h2).2 rfl (fun x p z=>hn x p z),fun a b c z=>by subst z;exact qQ h2⟩
     exact iN (aKp (hd rfl).2 O.cx.calm O.cx.nd mig.1 h1 (O.nms h3) (hS X C false _ gb O hd h4) (aGa mig.2))
    ·cases h
 ·-- while
  rename_i c b els pos
  cases t with
  | true=>cases h
  | false=>
   cases els with
   | cons _ _=>cases h
   | nil=>
    simp only [Bool.false_or,List.isEmpty_nil,Bool.not_true,ax,if_false] at h
    obtain⟨f,h1,h⟩:=zBd h
    obtain⟨gb,h2,rfl⟩:=zMd h
    exact iN (aBt (hd rfl).2 (kE X C _ f O.cx h1).2.1 (hS X C false _ gb O hd h2))
 ·-- raise
  rename_i x c pos
  cases t with
  | true=>cases h
  | false=>
   cases c with
   | some _=>cases h
   | none=>
    simp only [Bool.false_or,Option.isSome_none,ax,if_false] at h
    have hx:=zBd h
    clear h
    obtain⟨e,rfl,h⟩:=hx
    split at h
    ·rename_i f' as kws cp
     split at h
     ·rename_i hkw
      cases jH hkw
      have hx:=zBd h
      clear h
      obtain⟨⟨x,p⟩,hv,h⟩:=hx
      cases b8 hv
      have hx:=zBd h
      clear h
      obtain⟨a,ho,h⟩:=hx
      cases dM ho
      split at h
      ·rename_i hstr
       obtain⟨sx,k1,k2,rfl⟩:=aCr hstr
       split at h
       ·rename_i c e1 e2
        cases h
        obtain⟨g1,g2,g3,g4⟩:=O.cx.gl e2
        exact Zt.imp (aBx (hd rfl).1 O.cx.calm g1 g3 g2 (O.exi c)) fun E z=>z rfl
       ·cases h
      ·cases h
     ·cases h
    ·cases h
 ·-- try
  rename_i b hs els fin pos
  cases t with
  | true=>cases h
  | false=>
   cases els with
   | cons _ _=>cases h
   | nil=>
    cases fin with
    | cons _ _=>cases h
    | nil=>
     simp only [Bool.false_or,List.isEmpty_nil,Bool.not_true,ax,if_false] at h
     obtain⟨⟨i,j⟩,hh,h⟩:=zBd h
     obtain⟨gb,h3,rfl⟩:=zMd h
     obtain⟨cx,p1,e,x,p2,p3,p4,p5,rfl,e2,h1,h2,hc⟩:=aHo hh
     simp only [au] at hc
     obtain⟨g1,g2,g3,g4⟩:=O.cx.gl e2
     obtain⟨v1,v2,v3,v4⟩:=O.cx.vis _ i h1
     refine aKu O.fr O.cx.nd v1 ?_ (O.nm h2) (by simpa using hc.1.2) g1 g3 g2 v3 O.exm fun pins D'=> ?_
     ·rw [O.sc]
      exact e9 hc.1.1
     ·exact Zts.imp (hS _ C true _ gb (aCq O) (fun z=>nomatch z) h3) fun E _ z=>nomatch z
 ·cases h
theorem aLo {n:Nat} (hS:aN1 ad E₀ n) (hSs:aCs ad E₀ n):aCs ad E₀ (n+1):=by
 intro X C t s g O hd h
 have hB: ∀ a:Stmt,MS X ad (Zt ad E₀ t) a ((aFs n t C a).getD aMd):=fun a=>by
  cases e:aFs n t C a with
  | none=>exact aKq
  | some f=>exact hS X C t a f O hd e
 unfold j0 at h
 split at h
 ·cases h;exact aGg
 ·cases h;exact aGh (hB _)
 ·obtain⟨r,h2,rfl⟩:=zMd h
  exact aBr (hB _) (hSs X C t _ r O hd h2)
theorem zU: ∀ n,aN1 ad E₀ n/\aCs ad E₀ n:=by
 intro n
 induction n with
 | zero=>
  refine⟨?_, ?_⟩
  ·intro X C t s g O hd h
   unfold aFs at h
   cases h
  ·intro X C t s g O hd h
   unfold j0 at h
   cases h
 | succ n ih=>exact⟨aN2 ih.2,aLo ih.1 ih.2⟩
end
noncomputable def GlT (P:Program) (w:World) (K:Frag) (mg:Str->Option Value) (base:Heap) (ad:Ad) (k:Nat) (x:Str):SK.Gl->Prop
 | .fn j n F=> ∃ r f,r<=k/\mg x=some (.ref f)/\keepIn K (.ref f)=true/\(∃ fd ps,FnOk P w K mg base (CXe P w) r f fd ps (aBl K ad n F)/\kM K fd ps [])/\f=ad.fnA j
 | .exc c=>mg x=some (.ref (ad.cls c))/\c<ad.nb
 | .verr=>x="ValueError"/\mg x=none
 | .val d=> ∃ u v,mg x=some u/\b9 v u/\ ∀ G,Rep K ad G d v
 | .py p=>x=p8 p/\mg x=none
def fZ (P:Program) (w:World) (K:Frag) (mg:Str->Option Value) (base:Heap) (ad:Ad) (k:Nat) (tab:List (Str×SK.Gl)):Prop:= ∀ x g,tab.lookup x=some g->(x==("__debug__":Str))=false/\GlT P w K mg base ad k x g
def j5 (P:Program) (w:World) (K:Frag) (mg:Str->Option Value) (base:Heap) (ad:Ad) (k:Nat) (fns:List (Nat×Fn)):Prop:= ∀ j n F,fns[j]? =some (n,F)-> ∃ r,r<=k/\keepIn K (.ref (ad.fnA j))=true/\ ∃ fd ps,FnOk P w K mg base (CXe P w) r (ad.fnA j) fd ps (aBl K ad n F)/\kM K fd ps []
structure ExcK (K:Frag) (ad:Ad):Prop where
 exc: ∀ c,ExcCls K (ad.cls c)
 kin: ∀ c e,c<ad.nb->kitOne K (.ref (ad.cls e)) (.ref (ad.cls c))=some (hit c e)
 kve: ∀ e,kitOne K (.ref (ad.cls e)) (.type "ValueError")=some true
 exm: ∀ c,exmOne K (.ref (ad.cls c)) (.ref (ad.cls 0))=some true
 exi: ∀ c,excIn K (ad.cls c) aMh "ValueError.__new__"=true
section
variable {P:Program} {w:World} {K:Frag} {mg:Str->Option Value} {base:Heap} {ad:Ad} {k:Nat} {tab:List (Str×SK.Gl)}
theorem GlT.mono {x:Str} {g:SK.Gl} {j:Nat} (h:GlT P w K mg base ad k x g) (hk:k<=j):GlT P w K mg base ad j x g:=by
 cases g with
 | fn i n F=>
  obtain⟨r,f,a,b⟩:=h
  exact⟨r,f,Nat.le_trans a hk,b⟩
 | exc c=>exact h
 | verr=>exact h
 | val d=>exact h
 | py p=>exact h
theorem fZ.mono {j:Nat} (h:fZ P w K mg base ad k tab) (hk:k<=j):fZ P w K mg base ad j tab:=fun x g e=>⟨(h x g e).1,(h x g e).2.mono hk⟩
theorem qR {G:Hp}: ∀ ss:List Str,aG K ad G (ss.map D.str) (ss.map V.str)
 | []=>aG.nil
 | x::ss=>aG.cons (by unfold Rep;rfl) (qR ss)
theorem aCu {a:Addr} {o:Obj} {its:Array Value} {n:Nat} {ss:List Str} (h:K.lookup a=some o) (hc:o.cls= .type "tuple") (hd:o.dict=none) (hs:o.data= .seq its n) (hz:its.size<=sizeLine) (hv:bI (ss.map V.str) its.toList) (G:Hp):Rep K ad G (.tup (ss.map D.str)) (.ref a):=by
 unfold Rep
 exact⟨a,ss.map V.str,rfl, .inr ⟨o,its,n,h,hc,hd,hs,hz,hv⟩,qR ss⟩
theorem fZ.nil:fZ P w K mg base ad k []:=fun x g e=>by cases e
theorem fZ.cons {x:Str} {g:SK.Gl} (h:fZ P w K mg base ad k tab) (hd:(x==("__debug__":Str))=false) (hg:GlT P w K mg base ad k x g):fZ P w K mg base ad k ((x,g)::tab):=by
 intro y g' e
 rw [List.lookup_cons] at e
 cases q:y==x with
 | true=>
  rw [q] at e
  cases e
  have:y=x:=by simpa using q
  subst this
  exact⟨hd,hg⟩
 | false=>
  rw [q] at e
  exact h y g' e
theorem j5.nil:j5 P w K mg base ad k []:=fun j n F e=>by simp at e
theorem j5.snoc {fns:List (Nat×Fn)} {j n:Nat} {F:Fn} {r k':Nat} {f:Addr} {fd:FuncData} {ps:List Str} (h:j5 P w K mg base ad k fns) (hk:k<=k') (hl:fns.length=j) (hf:f=ad.fnA j) (hr:r<=k') (kp:keepIn K (.ref f)=true) (ok:FnOk P w K mg base (CXe P w) r f fd ps (aBl K ad n F)) (hb:kM K fd ps []):
  j5 P w K mg base ad k' (fns++[(n,F)]):=by
 intro i m G e
 subst hf
 by_cases hi:i<fns.length
 ·rw [bt hi] at e
  obtain⟨r',h1,h2⟩:=h i m G e
  exact⟨r',Nat.le_trans h1 hk,h2⟩
 ·rw [bj (by omega)] at e
  cases hq:i - fns.length with
  | zero=>
   rw [hq] at e
   cases e
   have:i=j:=by omega
   subst this
   exact⟨r,hr,kp,fd,ps,ok,hb⟩
  | succ q=>rw [hq] at e;simp at e
theorem sN {N Ps:List Str} {sc:Scope} (h:i8 N Ps sc=true):FnScope N Ps sc/\ ∀ x∈N,(x==("__debug__":Str))=false/\(x==("__classdict__":Str))=false:=by
 unfold i8 at h
 simp only [au] at h
 obtain⟨⟨⟨⟨⟨⟨⟨h1,h2⟩,h3⟩,h4⟩,h5⟩,h6⟩,h7⟩,h8⟩:=h
 refine⟨⟨by simpa using h1,by simpa using h2,by simpa using h3,of_decide_eq_true h4,of_decide_eq_true h5,fun x hx=> ?_,fun y hy z=> ?_⟩,fun x hx=> ?_⟩
 ·have:=zAd h6 x hx
  rcases(Bool.or_eq_true _ _).mp this with z | z
  ·exact .inl (e9 z)
  ·exact .inr (e9 z)
 ·have:=zAd h7 y hy
  rw [z] at this
  simp at this
 ·have:=zAd h8 x hx
  simpa using this
theorem aCv {X:Cx} {G:Hp} {ds:List D} {vs:List V} {n:Nat} (hG:Same G X.H₀) (r:aG X.K ad G ds vs):SS X ad G G X.H₀ (ds.map Slot.sh++ak n .no) (vs.map some++ak n none):=by
 have hl:=r.length
 have key: ∀ (i:Nat) (sl:Slot),(ds.map Slot.sh++ak n .no)[i]? =some sl->(∃ d v,sl= .sh d/\(vs.map some++ak n none)[i]? =some (some v)/\Rep X.K ad G d v)\/(sl= .no/\ ∃ ov,(vs.map some++ak n none)[i]? =some ov):=fun i sl e=>by
  by_cases hi:i<ds.length
  ·rw [bt (by simpa using hi),List.getElem?_map] at e
   cases e1:ds[i]? with
   | none=>rw [e1] at e;cases e
   | some d=>
    rw [e1] at e
    cases e
    obtain⟨v,e2,q⟩:=r.get e1
    refine .inl ⟨d,v,rfl, ?_,q⟩
    rw [bt (by rw [am];omega),List.getElem?_map,e2]
    rfl
  ·rw [bj (by simpa using hi),List.getElem?_replicate] at e
   split at e
   ·cases e
    refine .inr ⟨rfl,none, ?_⟩
    rename_i hlt
    rw [bj (by rw [am];omega),List.getElem?_replicate,if_pos]
    rw [am] at hlt ⊢
    omega
   ·cases e
 refine⟨Step.refl hG,⟨by simp [hl],fun i sl e=> ?_⟩,fun i xs a e w h=> ?_,fun i j xs ys a e1 e2 w1 w2 h1 h2=> ?_⟩
 ·rcases key i sl e with ⟨d,v,rfl,e1,q⟩ | ⟨rfl,ov,e1⟩
  ·exact⟨some v,e1,v,rfl,q⟩
  ·exact⟨ov,e1,trivial⟩
 ·rcases key i _ e with ⟨d,v,z,_⟩ | ⟨z,_⟩<;>(subst z;exact(bd w).elim)
 ·rcases key i _ e1 with ⟨d,v,z,_⟩ | ⟨z,_⟩<;>(subst z;exact(bd w1).elim)
theorem zV {x qual:Str} {st:Stmt} {f:Addr} {fd:FuncData} {fns:List (Nat×Fn)} {n:Nat} {F:Fn} {ps:List Str} (B:ExcK K ad) (TB:fZ P w K mg base ad k tab) (FB:j5 P w K mg base ad k fns) (Fu:Fun K x qual st f fd) (hps:jQ (defArgs st)=some ps)
  (hd:xF tab fns st=some (n,F)):FnOk P w K mg base (CXe P w) (k+1) f fd ps (aBl K ad n F):=by
 obtain⟨oc,od,kV,doc,pm,an,cdv,ct,osl,rfl,lk,hcd⟩:=Fu.ex
 cases st with
 | FunctionDef nm as b dl re tp sc ts bi pos=>
  have hd':((jQ as).bind fun Ps=>if i8 (bM sc) Ps sc then(j0 100 false ⟨tab,fns,sc,bM sc,aBf 50 b⟩ b).map fun g=>(Ps.length,SK.fnOf (bM sc).length g) else none)=some (n,F):=hd
  have hps':jQ as=some ps:=hps
  rw [hps'] at hd'
  have hd2:(if i8 (bM sc) ps sc then(j0 100 false ⟨tab,fns,sc,bM sc,aBf 50 b⟩ b).map fun g=>(ps.length,SK.fnOf (bM sc).length g) else none)=some (n,F):=hd'
  by_cases hs:i8 (bM sc) ps sc=true
  ·rw [if_pos hs] at hd2
   obtain⟨g,hg,e⟩:=zMd hd2
   cases e
   obtain⟨S,nm⟩:=sN hs
   refine aM1 lk hcd S (fun vs H Q E ⟨G,ds,_,r,hl,_⟩=>by rw [r.length,hl]) fun A outer s H vs Q E hr hz_=> ?_
   obtain⟨G,ds,hG,r,hl,hq⟩:=hz_
   let C:SK.Ctx:=⟨tab,fns,sc,bM sc,aBf 50 b⟩
   have vis: ∀ x i,loc C x=some i->(bM sc)[i]? =some x/\Loc sc x/\x∈bM sc:=fun x i e=>by
    obtain⟨e1,e2⟩:=x8 e
    refine⟨kZ e1, ?_,x6 e1⟩
    rcases e2 with e2 | e2 | e2
    ·exact .inl e2
    ·exact .inr e2
    ·exact absurd rfl (S.nofree _ (mT e2))
   have O:StOk (aDs (CXe P w) P w K mg base (bM sc) qual sc f cdv A outer s H E) ad C:=by
    refine⟨⟨rfl,S.nd,fun x i e=> ?_,fun x e=>e,fun x g e=> ?_,fun x i e=> ?_,rfl, ?_,hr.hd,B.exc,B.kin,B.kve,fun j m F' e=> ?_⟩,fun _=>rfl,rfl,fun x i e=>(vis x i e).2.1,⟨rfl,rfl,rfl⟩,B.exm,B.exi⟩
    ·obtain⟨a,b,c⟩:=vis x i e
     exact⟨a,b.elim .inl fun z=> .inr (.inl z),(nm x c).1,(nm x c).2⟩
    ·obtain⟨a,b⟩:=TB x g e
     refine⟨a, ?_⟩
     cases g with
     | fn j m F'=>
      obtain⟨r',f',h1,h2,h3,h4,h5⟩:=b
      exact⟨r',f',⟨h2,h3,h4⟩,hr.mono h1,h5⟩
     | exc c=>exact b
     | verr=>exact b
     | val d=>exact b
     | py p=>exact b
    ·obtain⟨e1,e2⟩:=mS e
     rcases e2 with e2 | e2
     ·exact .inl e2
     ·exact absurd rfl (S.nofree _ (mT e2))
    ·exact Nat.lt_of_le_of_lt (Nat.add_le_add_left (by decide:62<=64) _) hr.units
    ·obtain⟨r',h1,h2,h3⟩:=FB j m F' e
     exact⟨r',⟨h2,h3⟩,hr.mono h1⟩
   have T:DefX (aDs (CXe P w) P w K mg base (bM sc) qual sc f cdv A outer s H E) E:=⟨rfl,rfl,rfl,fun e s' h=>h⟩
   refine⟨_,(zU (ad:=ad) (E₀:=E) 100).2 _ C false b g O (fun _=>⟨T,PassesOwn.leaving (Q₁:=fun e s''=>CXe P w outer H s E e s'')⟩) hg, ?_⟩
   refine⟨G,G,ds.map Slot.sh++ak ((bM sc).length - ds.length) .no,fun σ c H'=>E (.ref (ad.cls c)) none H', ?_,⟨fun σ=>aKs T,fun _ σ c H h=>h⟩, ?_⟩
   ·have:=aCv (X:=aDs (CXe P w) P w K mg base (bM sc) qual sc f cdv A outer s H E) (ad:=ad) (n:=(bM sc).length - ds.length) hG r
    unfold L2.start
    rw [r.length]
    exact this
   ·have hq':RK K ad G H (match g (ds.map Slot.sh++ak ((bM sc).length - ds.length) .no) with
     | .rt (.ok d)=> .ok d
     | .rt (.ow xs)=> .ow xs
     | .rt _=> .bad
     | .nx _=> .ok .non
     | .ex c _=> .ex c
     | _=> .bad) Q (fun c H'=>E (.ref (ad.cls c)) none H'):=hq
    cases e:g (ds.map Slot.sh++ak ((bM sc).length - ds.length) .no) with
    | nx ρ=>rw [e] at hq';exact fun σ G' H' S'=>hq' .non G' H' S'.st (by unfold Rep;rfl)
    | bk ρ=>rw [e] at hq';exact hq'.elim
    | ct ρ=>rw [e] at hq';exact hq'.elim
    | ex c ρ=>rw [e] at hq';exact fun σ G' H' S'=>hq' G' H' S'.st
    | rt r'=>
     rw [e] at hq'
     cases r' with
     | ok d=>exact hq'
     | ow xs=>exact hq'
     | ex c=>exact hq'.elim
     | bad=>exact hq'.elim
  ·rw [if_neg hs] at hd2
   cases hd2
 | _=>cases hd
noncomputable def uT (K:Frag) (cs:List Addr) (C0:Addr):Bool:=
 decide (cs.length<=100)&&cs.head?==some C0&&cs.all fun C=>(clsIn K C).isSome&&mroIn K C (.type "object")==some true&&mroIn K C (.type "BaseException")==some true&&findIn K (.ref C) "__class__"==some (some (.builtin "object.__class__"))&&
  findIn K (.ref C) "__getattribute__"==some (some (.builtin "BaseException.__getattribute__"))&&findIn K (.ref C) "__getattr__"==some none&&kitOne K (.ref C) (.type "ValueError")==some true&&exmOne K (.ref C) (.ref C0)==some true&&
  excIn K C aMh "ValueError.__new__"
noncomputable def uU (K:Frag) (cs:List Addr):Bool:=cs.zipIdx.all fun p=>cs.zipIdx.all fun q=>kitOne K (.ref p.1) (.ref q.1)==some (hit q.2 p.2)
noncomputable def aHq (cs:List Addr) (C0:Addr) (fs:List Addr):Ad:=⟨fun c=>cs.getD c C0,fun k=>fs.getD k 0,cs.length⟩
theorem aHr {cs fs:List Addr} {C0:Addr} (h:uT K cs C0=true) (h2:uU K cs=true):ExcK K (aHq cs C0 fs):=by
 unfold uT at h
 rw [au,au] at h
 obtain⟨⟨hl,hh⟩,ha⟩:=h
 have hl:cs.length<=100:=of_decide_eq_true hl
 have hh:cs.head?=some C0:=by simpa using hh
 have mem0:C0∈cs:=List.mem_of_mem_head? (by rw [hh];rfl)
 have get: ∀ c,(aHq cs C0 fs).cls c∈cs:=fun c=>by
  show cs.getD c C0∈cs
  rw [bu]
  cases e:cs[c]? with
  | none=>exact mem0
  | some a=>exact List.mem_of_getElem? e
 have z0:cs[0]? =some C0:=by rw [<-List.head?_eq_getElem?];exact hh
 have c0:(aHq cs C0 fs).cls 0=C0:=by
  show cs.getD 0 C0=C0
  rw [bu,z0]
  rfl
 have all: ∀ C∈cs,ExcCls K C/\kitOne K (.ref C) (.type "ValueError")=some true/\exmOne K (.ref C) (.ref C0)=some true/\excIn K C aMh "ValueError.__new__"=true:=fun C hC=>by
  have:=zAd ha C hC
  simp only [au,beq_iff_eq] at this
  obtain⟨⟨⟨⟨⟨⟨⟨⟨h1,h2⟩,h3⟩,h4⟩,h5⟩,h6⟩,h7⟩,h8⟩,h9⟩:=this
  exact⟨⟨h1,h2,h3,h4,h5,h6⟩,h7,h8,h9⟩
 have pair: ∀ (c e:Nat) (a b:Addr),cs[e]? =some a->cs[c]? =some b->kitOne K (.ref a) (.ref b)=some (hit c e):=fun c e a b ea eb=>by
  unfold uU at h2
  have m1:(a,e)∈cs.zipIdx:=List.mem_zipIdx_iff_getElem?.mpr ea
  have m2:(b,c)∈cs.zipIdx:=List.mem_zipIdx_iff_getElem?.mpr eb
  have:=zAd (zAd h2 _ m1) _ m2
  simpa using this
 refine⟨fun c=>(all _ (get c)).1,fun c e hc=> ?_,fun e=>(all _ (get e)).2.1,fun c=> ?_,fun c=>(all _ (get c)).2.2.2⟩
 ·have hc':c<cs.length:=hc
  obtain⟨b,eb⟩: ∃ b,cs[c]? =some b:=⟨_,ba hc'⟩
  have e1:(aHq cs C0 fs).cls c=b:=by
   show cs.getD c C0=b
   rw [bu,eb]
   rfl
  rw [e1]
  cases ea:cs[e]? with
  | some a=>
   have e2:(aHq cs C0 fs).cls e=a:=by
    show cs.getD e C0=a
    rw [bu,ea]
    rfl
   rw [e2]
   exact pair c e a b ea eb
  | none=>
   have e2:(aHq cs C0 fs).cls e=C0:=by
    show cs.getD e C0=C0
    rw [bu,ea]
    rfl
   have hel:cs.length<=e:=List.getElem?_eq_none_iff.mp ea
   rw [e2,pair c 0 C0 b z0 eb]
   congr 1
   unfold hit
   have n1:(c==e)=false:=by simp;omega
   rw [n1]
   cases c<;>simp
 ·rw [c0]
  exact(all _ (get c)).2.2.1
end
section
variable {P:Program} {w:World} {K:Frag} {mg:Str->Option Value} {base h:Heap} {ad:Ad} {k:Nat} {tab:List (Str×SK.Gl)} {fns:List (Nat×Fn)}
theorem aEm {x qual:Str} {st:Stmt} {f:Addr} {fd:FuncData} {n j:Nat} {m:Fn->Fn} {ps:List Str} (B:ExcK K ad) (TB:fZ P w K mg base ad k tab) (Fu:Fun K x qual st f fd) (hps:jQ (defArgs st)=some ps) (hb:kM K fd ps []) (hm:mg x=some (.ref f))
  (hdb:(x==("__debug__":Str))=false) (hj:f=ad.fnA j) (hd: ∀ F,xF ((x, .fn j n F)::tab) [] st=some (n,m F)): ∀ i,FnOk P w K mg base (CXe P w) (k+i) f fd ps (aBl K ad n (pT m i))
 | 0=>⟨fun vs H Q E ⟨G,ds,_,_,_,z⟩=>z.elim,fun A outer s H args us vs Q E _ _ _ _ ⟨G,ds,_,_,_,z⟩=>z.elim⟩
 | i+1=>zV (k:=k+i) B ((TB.mono (Nat.le_add_right k i)).cons (g:= .fn j n (pT m i)) hdb ⟨k+i,f,aj _,hm,Fu.kp,⟨fd,ps,aEm B TB Fu hps hb hm hdb hj hd i,hb⟩,hj⟩) j5.nil Fu hps (hd (pT m i))
structure PQ (P:Program) (w:World) (K:Frag) (mg:Str->Option Value) (base h:Heap) (ad:Ad) (k:Nat) (tab:List (Str×SK.Gl)) (fns:List (Nat×Fn)):Prop where
 t:fZ P w K mg base ad k tab
 u:j5 P w K mg base ad k fns
 X:K.In h
 G:h.Ns mainGlobals mg
 B:ExcK K ad
def Bnd (x:Str) (st:Stmt) (ps:List Str):Prop:= ∀ (kV doc pm:Value) (an:Option Addr) (cdv ct:Value) (us:List Value),us.length=ps.length->bindArgs (PySem.W.fnOf x x (defArgs st) (defBody st) (defScope st) .none kV doc pm an cdv ct) ⟨us,[]⟩=pure (ps.zip us)
theorem PQ.cons (T:PQ P w K mg base h ad k tab fns) {x:Str} {f:Addr} {fd:FuncData} {ps:List Str} {n r:Nat} {M:Fn} (hr:k<=r) (ok:FnOk P w K mg base (CXe P w) r f fd ps (aBl K ad n M)) (hb:kM K fd ps []) (kp:keepIn K (.ref f)=true) (hm:mg x=some (.ref f)) (hj:f=ad.fnA fns.length) (hdb:(x==("__debug__":Str))=false):
  PQ P w K mg base h ad r ((x, .fn fns.length n M)::tab) (fns++[(n,M)]):=
 ⟨fZ.cons (T.t.mono hr) hdb ⟨r,f,aj _,hm,kp,⟨_,_,ok,hb⟩,hj⟩,j5.snoc T.u hr rfl hj (aj _) kp ok hb,T.X,T.G,T.B⟩
theorem PQ.addV (T:PQ P w K mg base h ad k tab fns) (x:Str) (st:Stmt) (f:Addr) (ps:List Str) (n:Nat) (M:Fn) {oc:Value} {od an:Option Addr} {osl:Array (Option Value)} {kV doc pm cdv ct:Value} (l:K.lookup f=some ⟨oc,od, .func (PySem.W.fnOf x x (defArgs st) (defBody st) (defScope st) .none kV doc pm an cdv ct),osl⟩)
  (fns':List (Nat×Fn)) (hf:fns'=fns\/fns'=[]) (d:xF tab fns' st=some (n,M):=by kernel_rfl) (c:codeIn K cdv x=true:=by kernel_rfl) (kp:keepIn K (.ref f)=true:=by kernel_rfl) (hm:nsIn K mainGlobals x=some (some (.ref f)):=by kernel_rfl) (hj:f=ad.fnA fns.length:=by rfl)
  (hdb:(x==("__debug__":Str))=false:=by decide) (hps:jQ (defArgs st)=some ps:=by rfl) (hb:Bnd x st ps:=by intro _ _ _ _ _ _ us hl;rcases us with _ | ⟨u0,_ | ⟨u1,_ | ⟨u2,_ | ⟨u3,_ | ⟨u4,us⟩⟩⟩⟩⟩<;>first | rfl | (simp at hl)):
  PQ P w K mg base h ad (k+1) ((x, .fn fns.length n M)::tab) (fns++[(n,M)]):=by
 have F:=w8 (st:=st) l c kp
 refine T.cons (Nat.le_succ _) (zV (ps:=ps) T.B T.t ?_ F hps d) (F.binds hb) kp (PySem.W.mg_of T.X T.G hm) hj hdb
 rcases hf with rfl | rfl
 ·exact T.u
 ·exact j5.nil
theorem PQ.add (T:PQ P w K mg base h ad k tab fns) (x:Str) (st:Stmt) (f:Addr) (ps:List Str) (n:Nat) (M:Fn) {oc:Value} {od an:Option Addr} {osl:Array (Option Value)} {kV doc pm cdv ct:Value} (l:K.lookup f=some ⟨oc,od, .func (PySem.W.fnOf x x (defArgs st) (defBody st) (defScope st) .none kV doc pm an cdv ct),osl⟩)
  (d:xF tab [] st=some (n,M):=by kernel_rfl) (c:codeIn K cdv x=true:=by kernel_rfl) (kp:keepIn K (.ref f)=true:=by kernel_rfl) (hm:nsIn K mainGlobals x=some (some (.ref f)):=by kernel_rfl) (hj:f=ad.fnA fns.length:=by rfl)
  (hdb:(x==("__debug__":Str))=false:=by decide) (hps:jQ (defArgs st)=some ps:=by rfl) (hb:Bnd x st ps:=by intro _ _ _ _ _ _ us hl;rcases us with _ | ⟨u0,_ | ⟨u1,_ | ⟨u2,_ | ⟨u3,_ | ⟨u4,us⟩⟩⟩⟩⟩<;>first | rfl | (simp at hl)):
  PQ P w K mg base h ad (k+1) ((x, .fn fns.length n M)::tab) (fns++[(n,M)]):=T.addV x st f ps n M l [] (.inr rfl) d c kp hm hj hdb hps hb
theorem PQ.addR (T:PQ P w K mg base h ad k tab fns) (x:Str) (st:Stmt) (f:Addr) (ps:List Str) (n:Nat) (m:Fn->Fn) (i:Nat) {oc:Value} {od an:Option Addr} {osl:Array (Option Value)} {kV doc pm cdv ct:Value} (l:K.lookup f=some ⟨oc,od, .func (PySem.W.fnOf x x (defArgs st) (defBody st) (defScope st) .none kV doc pm an cdv ct),osl⟩)
  (d: ∀ F,xF ((x, .fn fns.length n F)::tab) [] st=some (n,m F):=by intro F;kernel_rfl) (c:codeIn K cdv x=true:=by kernel_rfl) (kp:keepIn K (.ref f)=true:=by kernel_rfl) (hm:nsIn K mainGlobals x=some (some (.ref f)):=by kernel_rfl) (hj:f=ad.fnA fns.length:=by rfl)
  (hdb:(x==("__debug__":Str))=false:=by decide) (hps:jQ (defArgs st)=some ps:=by rfl) (hb:Bnd x st ps:=by intro _ _ _ _ _ _ us hl;rcases us with _ | ⟨u0,_ | ⟨u1,_ | ⟨u2,_ | ⟨u3,_ | ⟨u4,us⟩⟩⟩⟩⟩<;>first | rfl | (simp at hl)):
  PQ P w K mg base h ad (k+i) ((x, .fn fns.length n (pT m i))::tab) (fns++[(n,pT m i)]):=
 have F:=w8 (st:=st) l c kp
 T.cons (Nat.le_add_right _ _) (aEm T.B T.t F hps (F.binds hb) (PySem.W.mg_of T.X T.G hm) hdb hj d i) (F.binds hb) kp (PySem.W.mg_of T.X T.G hm) hj hdb
theorem PQ.py (T:PQ P w K mg base h ad 0 tab []) (p:Py) (hm:nsIn K mainGlobals (p8 p)=some none:=by kernel_rfl) (hdb:(p8 p==("__debug__":Str))=false:=by decide):PQ P w K mg base h ad 0 ((p8 p, .py p)::tab) []:=⟨fZ.cons T.t hdb ⟨rfl,PySem.W.mg_none_of T.X T.G hm⟩,T.u,T.X,T.G,T.B⟩
theorem PQ.verr (T:PQ P w K mg base h ad 0 tab []) (hm:nsIn K mainGlobals "ValueError"=some none:=by kernel_rfl):PQ P w K mg base h ad 0 (("ValueError", .verr)::tab) []:=⟨fZ.cons T.t (by decide) ⟨rfl,PySem.W.mg_none_of T.X T.G hm⟩,T.u,T.X,T.G,T.B⟩
theorem PQ.exc (T:PQ P w K mg base h ad 0 tab []) (x:Str) (c:Nat) (hm:nsIn K mainGlobals x=some (some (.ref (ad.cls c))):=by kernel_rfl) (hc:c<ad.nb:=by decide) (hdb:(x==("__debug__":Str))=false:=by decide):PQ P w K mg base h ad 0 ((x, .exc c)::tab) []:=⟨fZ.cons T.t hdb ⟨PySem.W.mg_of T.X T.G hm,hc⟩,T.u,T.X,T.G,T.B⟩
theorem PQ.int (T:PQ P w K mg base h ad 0 tab []) (x:Str) (i:Int) (t:Tok) (hm:nsIn K mainGlobals x=some (some (.int i t)):=by kernel_rfl) (hdb:(x==("__debug__":Str))=false:=by decide):PQ P w K mg base h ad 0 ((x, .val (.int i))::tab) []:=⟨fZ.cons T.t hdb ⟨.int i t, .int i,PySem.W.mg_of T.X T.G hm,⟨_,rfl⟩,fun G=>by unfold Rep;rfl⟩,T.u,T.X,T.G,T.B⟩
theorem PQ.val (T:PQ P w K mg base h ad 0 tab []) (x:Str) {d:D} {u:Value} {v:V} (hv:b9 v u) (hr: ∀ G,Rep K ad G d v) (hm:nsIn K mainGlobals x=some (some u):=by kernel_rfl) (hdb:(x==("__debug__":Str))=false:=by decide):PQ P w K mg base h ad 0 ((x, .val d)::tab) []:=⟨fZ.cons T.t hdb ⟨u,v,PySem.W.mg_of T.X T.G hm,hv,hr⟩,T.u,T.X,T.G,T.B⟩
theorem PQ.nil (X:K.In h) (G:h.Ns mainGlobals mg) (B:ExcK K ad):PQ P w K mg base h ad 0 [] []:=⟨fZ.nil,j5.nil,X,G,B⟩
end
noncomputable def aCw (K:Frag):Sp:=fun vs H Q _=> ∃ (a:Addr) (ns:List Int),vs=[.ref a]/\SqL K H a (ns.map V.int)/\ns.length<=63/\ ∀ H',Q (.bl true) H'
theorem aHs {P:Program} {w:World} {K:Frag} {mg:Str->Option Value} {base:Heap} {ad:Ad} {k:Nat} {f:Addr} {fd:FuncData} {ps:List Str} {M:Fn} (g:FnOk P w K mg base (CXe P w) k f fd ps (aBl K ad 1 M)) (hm: ∀ ns:List Int,M [.lst (ns.map D.int)]= .ok (.bl true)):FnOk P w K mg base (CXe P w) k f fd ps (aCw K):=by
 refine g.imp fun vs H Q E ⟨a,ns,e,hS,hl,hQ⟩=>⟨H,[.lst (ns.map D.int)],Same.refl _, ?_,rfl, ?_⟩
 ·subst e
  exact aG.cons (by unfold Rep;exact⟨a,_,rfl,hS,aG.map_int⟩) aG.nil
 ·rw [hm ns]
  intro v G' H' _ r
  unfold Rep at r;subst r
  exact hQ H'
theorem walk {l:PySem.W.OpenLaw} {q:Program} {loose:List Str} {XP:(Str->Option Value)->Heap->Prop} {YP:World->Heap->Prop} {d:DefRec} {K:Params->PySem.W.Frag} (r:Nat) (hn:l.most=some 63) (hdf:d.params.defaults=[]) (hr:Room r callerA)
  (hY: ∀ (w:World) (h:Heap),YP w h->(K w.params).In h)
  (F: ∀ (w:World) (mg:Str->Option Value) (fa:Addr) (h:Heap),(K w.params).In h->h.Ns mainGlobals mg->mg d.name=some (.ref fa)->
   ∃ fd:FuncData,(∀ (s:Shared) (u:Value),BindsTo s fd ⟨[u],[]⟩ [("_law_script",u)])/\ ∀ base:Heap,(K w.params).In base->base.Ns mainGlobals mg->FnOk l.prog w (K w.params) mg base (CXe l.prog w) r fa fd ["_law_script"] (aCw (K w.params))):
  PySem.W.WalkO q loose XP YP l.row.toRowW d [] (fun f vs=>PySem.call f vs):=
 L2.walk_of (n:=63) (k:=r) (x:="_law_script") (CX:=fun w=>CXe l.prog w) (sp:=fun w=>aCw (K w.params)) hn (by decide) hdf hr hY F (fun _ _ a ns hl _ hS=>⟨a,ns,rfl,hS,hl,fun _=>rfl⟩)
  fun _ _ _ _ _ h=>by obtain⟨_,_,_,_,_,_,_,_,_,_,_,_,_,_,z⟩:=h;exact z
theorem aD {a b:FS} {ρ ρ':Rho} (h:a ρ= .nx ρ'):aU a b ρ=b ρ':=by simp [aU,h]
theorem cZ {a b:FS} {ρ:Rho} {r:R} (h:a ρ= .rt r):aU a b ρ= .rt r:=by simp [aU,h]
theorem aV {i:Nat} {e:F} {ρ:Rho} {d:D} (h:e ρ= .ok d):b7 i e ρ= .nx (ρ.set i (.sh d)):=by simp [b7,h,jZ]
theorem cD {i:Nat} {e:F} {ρ:Rho} {d:List D} (h:e ρ= .ow d):b7 i e ρ= .nx (ρ.set i (.sh (.lst d))):=by simp [b7,h,jZ]
theorem sO {i:Nat} {e:F} {ρ:Rho} {c:Nat} (h:e ρ= .ex c):b7 i e ρ= .ex c ρ:=by simp [b7,h,jZ]
theorem eS {i:Nat} {e:F} {ρ:Rho} {d:List D} (h:e ρ= .ow d):jP i e ρ= .nx (ρ.set i (.ow d)):=by simp [jP,h]
theorem iW {e:F} {ρ:Rho} {d:D} (h:e ρ= .ok d):eQ e ρ= .nx ρ:=by simp [eQ,h,jZ]
theorem oQ {e:F} {ρ:Rho} {c:Nat} (h:e ρ= .ex c):eQ e ρ= .ex c ρ:=by simp [eQ,h,jZ]
theorem aR {e:F} {ρ:Rho} {d:D} (h:e ρ= .ok d):bT e ρ= .rt (.ok d):=by simp [bT,h]
theorem iB {e:F} {ρ:Rho} {d:List D} (h:e ρ= .ow d):bT e ρ= .rt (.ow d):=by simp [bT,h]
theorem dN {c:F} {a b:FS} {ρ:Rho} (h:c ρ= .ok (.bl true)):sIf c a b ρ=a ρ:=by simp [sIf,h]
theorem cE {c:F} {a b:FS} {ρ:Rho} (h:c ρ= .ok (.bl false)):sIf c a b ρ=b ρ:=by simp [sIf,h]
theorem aW {n:Nat} {b:FS} {ds:List D} {d:D} (h:b (ds.map Slot.sh++ak (n - ds.length) .no)= .rt (.ok d)):fnOf n b ds= .ok d:=by simp [fnOf,h]
theorem iC {n:Nat} {b:FS} {ds:List D} {d:List D} (h:b (ds.map Slot.sh++ak (n - ds.length) .no)= .rt (.ow d)):fnOf n b ds= .ow d:=by simp [fnOf,h]
theorem jI {n:Nat} {b:FS} {ds:List D} {c:Nat} {ρ:Rho} (h:b (ds.map Slot.sh++ak (n - ds.length) .no)= .ex c ρ):fnOf n b ds= .ex c:=by simp [fnOf,h]
theorem zW {n:Nat} {b:FS} {ds:List D} {ρ:Rho} (h:b (ds.map Slot.sh++ak (n - ds.length) .no)= .nx ρ):fnOf n b ds= .ok .non:=by simp [fnOf,h]
theorem qS {xs:List Int}:fK (xs.map D.int)=some xs:=by
 induction xs with
 | nil=>rfl
 | cons x r ih=>simp [fK,ih]
theorem m9 {xs:List Bool}:eI (xs.map D.bl)=some xs:=by
 induction xs with
 | nil=>rfl
 | cons x r ih=>simp [eI,ih]
theorem aN {op:Operator} {a b:F} {ρ:Rho} {x y:D} (h:a ρ= .ok x) (k:b ρ= .ok y):aJ op a b ρ=jN op x y:=by simp [aJ,h,k,R.bind]
theorem aZ {op:CmpOp} {a b:F} {ρ:Rho} {x y:D} (h:a ρ= .ok x) (k:b ρ= .ok y):aP op a b ρ=eF op x y:=by simp [aP,h,k,R.bind]
theorem gP {op:CmpOp} {a b:F} {ρ:Rho} {x y:List D} (h:a ρ= .ow x) (k:b ρ= .ow y):aP op a b ρ=eF op (.lst x) (.lst y):=by simp [aP,h,k,R.bind]
theorem dO {a b:F} {ρ:Rho} {x y:D} (h:a ρ= .ok x) (k:b ρ= .ok y):rIx a b ρ=dIx x y:=by simp [rIx,h,k,R.bind]
theorem lN {a b:F} {ρ:Rho} {x:List D} {y:D} (h:a ρ= .ow x) (k:b ρ= .ok y):rIx a b ρ=dIx (.lst x) y:=by simp [rIx,h,k,R.bind]
theorem iD {a:F} {ρ:Rho} {b:Bool} (h:a ρ= .ok (.bl b)):jO a ρ= .ok (.bl (!b)):=by simp [jO,h,R.bind]
theorem iX {a b:F} {ρ:Rho} (h:a ρ= .ok (.bl true)):gX a b ρ=b ρ:=by simp [gX,h,R.bind]
theorem uV {a b:F} {ρ:Rho} (h:a ρ= .ok (.bl false)):gX a b ρ= .ok (.bl false):=by simp [gX,h,R.bind]
theorem wA {a b:F} {ρ:Rho} (h:a ρ= .ok (.bl true)):rOr a b ρ= .ok (.bl true):=by simp [rOr,h,R.bind]
theorem fB {a b:F} {ρ:Rho} (h:a ρ= .ok (.bl false)):rOr a b ρ=b ρ:=by simp [rOr,h,R.bind]
theorem wC {c a b:F} {ρ:Rho} (h:c ρ= .ok (.bl true)):rIf c a b ρ=a ρ:=by simp [rIf,h,R.bind]
theorem aCx {c a b:F} {ρ:Rho} (h:c ρ= .ok (.bl false)):rIf c a b ρ=b ρ:=by simp [rIf,h,R.bind]
theorem aO {f:Fn} {a:F} {ρ:Rho} {x:D} (h:a ρ= .ok x):aB f [a] ρ=f [x]:=by simp [aB,o8,args,h,RA.cons,RA.then]
theorem dP {f:Fn} {a:F} {ρ:Rho} {x:List D} (h:a ρ= .ow x):aB f [a] ρ=f [.lst x]:=by simp [aB,o8,args,h,RA.cons,RA.then]
theorem dZ {f:Fn} {a b:F} {ρ:Rho} {x y:D} (h:a ρ= .ok x) (k:b ρ= .ok y):aB f [a,b] ρ=f [x,y]:=by simp [aB,o8,args,h,k,RA.cons,RA.then]
theorem bN {f:Fn} {a b c:F} {ρ:Rho} {x y z:D} (h:a ρ= .ok x) (k:b ρ= .ok y) (l:c ρ= .ok z):aB f [a,b,c] ρ=f [x,y,z]:=by simp [aB,o8,args,h,k,l,RA.cons,RA.then]
theorem aHt {a:F} {ρ:Rho} {x:D} (h:a ρ= .ok x):eG [a] ρ= .ok (.tup [x]):=by simp [eG,o8,args,h,RA.cons,RA.then]
theorem aHu {a b:F} {ρ:Rho} {x y:D} (h:a ρ= .ok x) (k:b ρ= .ok y):eG [a,b] ρ= .ok (.tup [x,y]):=by simp [eG,o8,args,h,k,RA.cons,RA.then]
theorem zX {a b c:F} {ρ:Rho} {i j k:Int} (h:a ρ= .ok (.int i)) (h':b ρ= .ok (.int j)) (h'':c ρ= .ok (.int k)):gB .LtE .Lt a b c ρ= .ok (.bl (decide (i<=j)&&decide (j<k))):=by
 by_cases e:i<=j<;>simp [gB,h,h',h'',R.bind,eF,e]
theorem qT {a b c:F} {ρ:Rho} {i j k:Int} (h:a ρ= .ok (.int i)) (h':b ρ= .ok (.int j)) (h'':c ρ= .ok (.int k)):gB .LtE .LtE a b c ρ= .ok (.bl (decide (i<=j)&&decide (j<=k))):=by
 by_cases e:i<=j<;>simp [gB,h,h',h'',R.bind,eF,e]
theorem aLp {p:D->Bool} {ds:List D}:aDv [.lst (ds.map fun d=> .bl (p d))]= .ok (.bl (ds.all p)):=by
 have e:(ds.map fun d=>D.bl (p d))=(ds.map p).map D.bl:=by simp
 have k:(items (D.lst (ds.map fun d=>D.bl (p d)))).bind eI=some (ds.map p):=by
  show eI _=_
  rw [e];exact m9
 simp only [aDv,k];simp
theorem nA {f:D->Option (Option D)} {g:D->D}: ∀ {ds:List D},(∀ d∈ds,f d=some (some (g d)))->bH f ds=some (ds.map g)
 | [],_=>rfl
 | d::r,h=>by simp [bH,h d (.head _),nA (ds:=r) fun x m=>h x (.tail _ m)]
theorem nB {f:D->Option (Option D)} {P:D->Prop}: ∀ {ds:List D},(∀ d∈ds, ∃ x,f d=some (some x)/\P x)-> ∃ xs,bH f ds=some xs/\xs.length=ds.length/\ ∀ x∈xs,P x
 | [],_=>⟨[],rfl,rfl,nofun⟩
 | d::r,h=>by
  obtain⟨x,e,p⟩:=h d (.head _)
  obtain⟨xs,e',l,q⟩:=nB (ds:=r) fun x m=>h x (.tail _ m)
  refine⟨x::xs,by simp [bH,e,e'],by simp [l], ?_⟩
  intro y m;cases m with
  | head=>exact p
  | tail _ m=>exact q y m
theorem qU {cs:List Nat} {it e:F} {ρ:Rho} {ds:List D} {g:D->D} (hi:it ρ= .ok (.lst ds)\/it ρ= .ok (.tup ds)\/it ρ= .ow ds) (h: ∀ d∈ds,e (.sh d::iH cs ρ)= .ok (g d)):aF 0 cs it none e ρ= .ow (ds.map g):=by
 have k:bH (dD 0 (iH cs ρ) none e) ds=some (ds.map g):=nA fun d m=>by simp [dD,tgt,h d m]
 rcases hi with hi | hi | hi<;>simp [aF,hi,R.bind,items,k]
theorem eA {n:Nat} {cs:List Nat} {it e:F} {ρ:Rho} {ds:List D} {P:D->Prop} (hi:it ρ= .ok (.lst ds)\/it ρ= .ok (.tup ds)\/it ρ= .ow ds) (h: ∀ d∈ds, ∃ ts x,tgt n d=some ts/\e (ts++iH cs ρ)= .ok x/\P x):
  ∃ xs,aF n cs it none e ρ= .ow xs/\xs.length=ds.length/\ ∀ x∈xs,P x:=by
 obtain⟨xs,k,l,q⟩:=nB (f:=dD n (iH cs ρ) none e) (P:=P) (ds:=ds) fun d m=>by
  obtain⟨ts,x,a,b,c⟩:=h d m
  exact⟨x,by simp [dD,a,b],c⟩
 refine⟨xs, ?_,l,q⟩
 rcases hi with hi | hi | hi<;>simp [aF,hi,R.bind,items,k]
theorem qV {cs:List Nat} {it c:F} {e:F} {ρ:Rho} {ds:List D} {p:D->Bool} (hi:it ρ= .ok (.lst ds)\/it ρ= .ok (.tup ds)\/it ρ= .ow ds) (hc: ∀ d∈ds,c (.sh d::iH cs ρ)= .ok (.bl (p d))) (h: ∀ d∈ds,e (.sh d::iH cs ρ)= .ok d):
  aF 0 cs it (some c) e ρ= .ow (ds.filter p):=by
 have k: ∀ ds:List D,(∀ d∈ds,c (.sh d::iH cs ρ)= .ok (.bl (p d)))->(∀ d∈ds,e (.sh d::iH cs ρ)= .ok d)->bH (dD 0 (iH cs ρ) (some c) e) ds=some (ds.filter p):=by
  intro ds;induction ds with
  | nil=>intros;rfl
  | cons d r ih=>
   intro h1 h2
   have:=ih (fun x m=>h1 x (.tail _ m)) fun x m=>h2 x (.tail _ m)
   have a:=h1 d (.head _)
   cases hp:p d<;>simp [bH,dD,tgt,a,h2 d (.head _),hp,this]
 have:=k ds hc h
 rcases hi with hi | hi | hi<;>simp [aF,hi,R.bind,items,this]
theorem cN {a:F} {ρ:Rho} {n:Nat} (h:a ρ= .ok (.int n)) (l:n<=100000):aK a ρ= .ok (.lst (pQ n)):=by
 have:(-100000:Int)<=(n:Int)/\(n:Int)<=100000:=by omega
 simp [aK,h,R.bind,aDu,this]
theorem gQ {n:Nat} {d:D} (h:d∈pQ n): ∃ k:Nat,k<n/\d= .int k:=by
 simp only [pQ,ao,List.mem_range] at h
 obtain⟨k,a,b⟩:=h;exact⟨k,a,b.symm⟩
theorem dH {n:Nat}:(pQ n).length=n:=by simp [pQ]
theorem dI {xs:List D} {n:Nat} {x:D} (h:xs[n]? =some x):dIx (.lst xs) (.int n)= .ok x:=by
 obtain⟨l,e⟩:=aw.1 h
 simp [dIx,items,ixD,l,e]
theorem lO {xs:List D} {n:Nat} {x:D} (h:xs[n]? =some x):dIx (.tup xs) (.int n)= .ok x:=by
 obtain⟨l,e⟩:=aw.1 h
 simp [dIx,items,ixD,l,e]
theorem aEn {i j:Int} (h:sml j=true):jN .Mult (.int i) (.int j)= .ok (.int (i * j)):=by simp [jN,eX,h]
theorem aLq {i j:Int} (h:sml i=true):jN .Mult (.int i) (.int j)= .ok (.int (i * j)):=by simp [jN,eX,h]
theorem oR {i j:Int} (h:0<j):jN .Mod (.int i) (.int j)= .ok (.int (i % j)):=by simp [jN,eX,h]
theorem zY {i j:Int} (h:0<j) (l:j<1073741824):jN .FloorDiv (.int i) (.int j)= .ok (.int (i / j)):=by simp [jN,eX,h,l]
theorem aLr {i:Int} (a: -18446744073709551616<i) (b:i<18446744073709551616):sml i=true:=by simp [sml,a,b]
theorem eB {is:List Nat} {o:Bool} {it:F} {b:FS} {ρ:Rho} {ds:List D} (hi:it ρ= .ok (.lst ds)\/it ρ= .ok (.tup ds)\/it ρ= .ow ds):o9 is o it b ρ=bX (fJ is o) b ds ρ:=by
 rcases hi with hi | hi | hi<;>simp [o9,hi,jZ,items]
theorem bG {xs:List D}:aH xs=true↔ ∀ x∈xs,plain x=true:=by
 induction xs with
 | nil=>simp [aH]
 | cons x r ih=>simp [aH,ih]
theorem fT {x y:D} (a:plain x=true) (b:plain y=true) (c:dep y<=60):rQ x y=true:=by
 have:min (dep x) (dep y)<=60:=Nat.le_trans (Nat.min_le_right ..) c
 simp [rQ,a,b,this]
theorem iE {x y:D} (h:rQ x y=true):eF .Eq x y= .ok (.bl (deq x y)):=by simp [eF,h]
theorem oS {x y:D} (h:rQ x y=true):eF .NotEq x y= .ok (.bl (!deq x y)):=by simp [eF,h]
mutual
theorem uW: ∀ d:D,plain d=true->deq d d=true
 | .non,_=>rfl
 | .bl b,_=>by simp [deq]
 | .int i,_=>by simp [deq]
 | .str x,_=>by simp [deq]
 | .tup xs,h=>by simp only [deq];exact lP xs h
 | .lst xs,h=>by simp only [deq];exact lP xs h
 | .exc _,h=>by simp [plain] at h
 | .fn _,h=>by simp [plain] at h
theorem lP: ∀ xs:List D,aH xs=true->mG xs xs=true
 | [],_=>rfl
 | x::r,h=>by
  simp only [aH,au] at h
  simp [mG,uW x h.1,lP r h.2]
end
theorem iY {xs:List D} (h: ∀ x∈xs,dep x=0):jM xs=0:=by
 induction xs with
 | nil=>rfl
 | cons x r ih=>simp [jM,h x (.head _),ih fun y m=>h y (.tail _ m)]
end SK
namespace SK.k52
open SK
noncomputable def nC:Fn:=fnOf 1 (bT (gX (rIs (kS) (aA 0)) (jO (rIs (rS) (aA 0)))))
noncomputable def bC:Fn:=fnOf 2 (bT (gX (aB nC [aA 0]) (gB .LtE .Lt (rK (.int 0)) (aA 0) (aA 1))))
noncomputable def dJ:Fn:=fnOf 2 (bT (aB aDv [aF 0 [1] (aC 0) none (aB bC [aA 0,aA 1])]))
noncomputable def gI:Fn:=fnOf 1 (bT (aB bC [aA 0,aJ .Add (rK (.int 4)) (rK (.int 1))]))
noncomputable def oT:Fn:=fnOf 3 (bT (gX (rIs (cV) (aA 0)) (gX (aP .Eq (aB eU [aC 0]) (aA 1)) (aB dJ [aA 0,aA 2]))))
noncomputable def aL:Fn:=fnOf 1 (bT (aJ .LShift (rK (.int 1)) (aA 0)))
noncomputable def jT:Fn:=fnOf 2 (bT (aB dY [aF 0 [1] (aK (aA 0)) none (aJ .BitAnd (aJ .RShift (aA 1) (aA 0)) (rK (.int 1)))]))
noncomputable def gJ:Fn:=fnOf 1 (bT (aB xA [aB jT [rK (.int 4),aA 0]]))
noncomputable def iF:Fn:=fnOf 1 (aU (sIf (rOr (jO (rIs (cV) (aA 0))) (rOr (aP .NotEq (aB eU [aC 0]) (rK (.int 2))) (jO (aB gI [rIx (aC 0) (rK (.int 0))]))))
 (bT (rK (.bl false)))
 (bW))
 (bT (aB oT [rIx (aC 0) (rK (.int 1)),aB aL [rIx (aC 0) (rK (.int 0))],rK (.int 2)])))
noncomputable def aI:Fn:=fnOf 1 (sIf (jO (aB iF [aA 0]))
 (kP 1)
 (bW))
noncomputable def jU:Fn:=fnOf 1 (sIf (jO (aB gI [aA 0]))
 (kP 2)
 (bW))
noncomputable def jV:Fn:=fnOf 2 (sIf (jO (aB bC [aA 1,aA 0]))
 (kP 2)
 (bW))
noncomputable def aEo:Fn:=fnOf 1 (aU (eQ (aB aI [aA 0]))
 (bT (aF 2 [] (aFj (rIx (aC 0) (rK (.int 1)))) (some (aP .Eq (aA 1) (rK (.int 1)))) (aA 0))))
noncomputable def d6:Fn:=fnOf 2 (aU (eQ (aB jU [aA 0]))
 (aU (eQ (aB jV [aA 0,aA 1]))
 (bT (eG [aA 0,aB dY [aF 0 [1] (aK (aB aL [aA 0])) none (aJ .BitAnd (aJ .RShift (aA 0) (aA 1)) (rK (.int 1)))]]))))
noncomputable def uX (self:Fn):Fn:=fnOf 4 (aU (sIf (aP .Eq (aB eU [aC 0]) (rK (.int 1)))
 (bT (aA 0))
 (bW))
 (aU (b7 1 (aJ .FloorDiv (aB eU [aC 0]) (rK (.int 2))))
 (aU (b7 2 (aB self [gS (aC 0) none (some (aA 1))]))
 (aU (b7 3 (aB self [gS (aC 0) (some (aA 1)) none]))
 (bT (aJ .Add (aF 2 [] (vP (aA 2) (aA 3)) none (aJ .Add (aA 0) (aA 1))) (aF 2 [] (vP (aA 2) (aA 3)) none (aJ .Sub (aA 0) (aA 1)))))))))
noncomputable def aCy:Fn:=pT uX 12
noncomputable def aEp:Fn:=fnOf 1 (aU (eQ (aB aI [aA 0]))
 (bT (aB dY [aB aCy [aF 0 [] (rIx (aC 0) (rK (.int 1))) none (aJ .Sub (rK (.int 1)) (aJ .Mult (rK (.int 2)) (aA 0)))]])))
noncomputable def gZ:Fn:=fnOf 4 (aU (b7 3 (aF 0 [1] (aK (aB aL [aA 0])) none (aB gJ [aJ .BitAnd (aA 1) (aA 0)])))
 (bT (eG [aA 0,aB dY [aF 0 [2] (aC 3) none (aJ .Mod (aJ .Add (aA 0) (aA 1)) (rK (.int 2)))]])))
noncomputable def qW:Fn:=fnOf 6 (aU (b7 1 (aB aEp [aA 0]))
 (aU (b7 2 (aF 0 [] (aC 1) none (aB aM6 [aC 0])))
 (aU (b7 3 (aB aFl [aC 2]))
 (aU (b7 4 (pP pR (aC 2) (aA 3)))
 (aU (b7 5 (rIf (aP .Lt (rIx (aC 1) (aA 4)) (rK (.int 0))) (rK (.int 1)) (rK (.int 0))))
 (bT (eG [aB gZ [rIx (aC 0) (rK (.int 0)),aA 4,aA 5],aJ .FloorDiv (aJ .Sub (aB eU [aC 1]) (aA 3)) (rK (.int 2))])))))))
noncomputable def qX:Fn:=fnOf 1 (bT (rIx (aB qW [aA 0]) (rK (.int 1))))
noncomputable def uY:Fn:=fnOf 1 (bT (aP .Eq (aB qX [aA 0]) (rK (.int 0))))
noncomputable def bZ:Fn:=fnOf 2 (aU (sIf (jO (rIs (aFt) (aA 0)))
 (kP 1)
 (bW))
 (o9 [1] true (aA 0)
 (eQ (aB aI [aA 1]))))
noncomputable def g0:Fn:=fnOf 5 (aU (b7 1 (aB aEo [aA 0]))
 (aU (jP 2 (cM []))
 (aU (o9 [3] true (aK (aB eU [rIx (aC 0) (rK (.int 1))]))
 (aU (b7 4 (aF 0 [3] (aC 1) (some (aP .Eq (aJ .BitAnd (aA 0) (aA 1)) (aA 0))) (aA 0)))
  (aDx 2 (rIf (aMc (aA 4)) (rK (.int 1)) (rK (.int 0))))))
 (bT (eG [rIx (aC 0) (rK (.int 0)),aB dY [aC 2]])))))
noncomputable def eO:Fn:=fnOf 2 (aU (b7 1 (rIx (aC 0) (rK (.int 1))))
 (bT (aB aDv [aF 2 [] (vP (aA 1) (aM9 (aC 1))) none (aP .NotEq (aA 0) (aA 1))])))
noncomputable def cF:Fn:=fnOf 4 (aU (eQ (aB aI [aA 0]))
 (aU (b7 1 (rIx (aC 0) (rK (.int 1))))
 (aU (b7 2 (aP .Eq (aB g0 [aA 0]) (aA 0)))
 (aU (b7 3 (eG [aP .Eq (rIx (aC 1) (rK (.int 0))) (rK (.int 0)),aP .Eq (rIx (aC 1) (aAw (rK (.int 1)))) (rK (.int 1)),aB eO [aA 0],aA 2,aB uY [aA 0]]))
 (bT (aF 2 [] (vP (rK (.tup [.str "keeps 0", .str "keeps 1", .str "turned", .str "rising", .str "sum"])) (aA 3)) (some (aA 1)) (aA 0)))))))
noncomputable def cG:Fn:=fnOf 2 (aU (eQ (aB bZ [aA 0]))
 (aU (b7 1 (aF 0 [] (aC 0) none (aB cF [aA 0])))
 (bT (aF 0 [1] (rK (.tup [.str "keeps 0", .str "keeps 1", .str "turned", .str "rising", .str "sum"])) (some (aB aDv [aF 0 [0] (aC 1) none (aP .In (aA 1) (aA 0))])) (aA 0)))))
noncomputable def cQ:Fn:=fnOf 1 (bT (aP .Eq (aB cG [aA 0]) (cM [])))
noncomputable def cO:Fn:=fnOf 2 (bT (aB dY [aF 2 [] (vP (aA 0) (rIx (aC 1) (rK (.int 1)))) none (xB (aC 0) (aA 1))]))
noncomputable def eP:Fn:=fnOf 7 (aU (b7 3 (cM [aJ .Mult (eG [rIx (aC 0) (rK (.int 1))]) (aB aL [aA 1])]))
 (aU (o9 [4] true (aK (rIx (aC 0) (rK (.int 0))))
 (aU (jP 5 (cM []))
  (aU (o9 [6] true (aA 3)
  (gC 5 (aF 0 [6] (aC 2) none (aB cO [aA 1,aA 0]))))
  (aIj [5] (b7 3 (aB dSS [aC 5]))))))
 (bT (aF 0 [1] (aC 3) none (eG [aA 1,aB dY [aF 0 [] (aC 0) none (rIx (aC 0) (rK (.int 0)))]])))))
noncomputable def fC:Fn:=fnOf 5 (aU (jP 3 (aB aFk [aC 2]))
 (aU (o9 [4] true (aA 0)
 (gC 3 (aB eP [aA 4,aA 1,aA 2])))
 (aIj [3] (bT (aB dSS [aC 3])))))
noncomputable def cP:Fn:=fnOf 4 (aU (eQ (aB bZ [aA 0]))
 (aU (sIf (jO (aB bC [aA 1,aJ .Add (rK (.int 2)) (rK (.int 1))]))
 (kP 2)
 (bW))
 (aU (b7 2 (aB fM [aF 0 [1] (aK (aA 1)) none (aB d6 [aA 1,aA 0])]))
 (aU (b7 3 (aB fC [aA 0,aA 1,aA 2]))
 (aU (tK (aP .Gt (aB eU [aC 3]) (aB eU [aC 2]))
 (aU (b7 2 (aA 3))
  (b7 3 (aB fC [aA 0,aA 1,aA 2]))))
 (bT (aA 2)))))))
noncomputable def gR:Fn:=fnOf 2 (aU (sIf (aP .Lt (aA 1) (aB eU [aC 0]))
 (bT (rIx (aC 0) (aA 1)))
 (bW))
 (aU (sIf (aP .Eq (aA 0) (cM []))
 (bT (rK (.int 0)))
 (bW))
 (bT (aJ .Add (aJ .Mult (rIx (aC 0) (aJ .Mod (aA 1) (aB eU [aC 0]))) (rK (.int 31))) (aA 1)))))
noncomputable def aE:Fn:=fnOf 4 (aU (b7 3 (aJ .Mod (aJ .Mult (aJ .Add (aB gR [aA 0,aA 1]) (aJ .Mult (rK (.int 6151)) (aJ .Add (aA 1) (rK (.int 1))))) (rK (.int 40692))) (rK (.int 2147483399))))
 (bT (aJ .Mod (aJ .Mod (aJ .Add (aJ .Mult (aA 3) (aA 3)) (aJ .FloorDiv (aA 3) (rK (.int 31)))) (rK (.int 2147483629))) (aA 2))))
noncomputable def aS:Fn:=fnOf 2 (bT (aB dY [aF 0 [1] (aK (aA 0)) none (aJ .Mod (aJ .FloorDiv (aA 1) (rIx (cM [rK (.int 1),rK (.int 2),rK (.int 4),rK (.int 8)]) (aA 0))) (rK (.int 2)))]))
noncomputable def gK:Fn:=fnOf 2 (bT (aJ .Mod (aB xA [aF 2 [] (vP (aB aS [rK (.int 4),aA 0]) (aB aS [rK (.int 4),aA 1])) none (aJ .Mult (aA 0) (aA 1))]) (rK (.int 2))))
noncomputable def cT:Fn:=fnOf 9 (aU (b7 3 (rIx (cM [rK (.int 1),rK (.int 2),rK (.int 4),rK (.int 8),rK (.int 16)]) (aA 2)))
 (aU (b7 4 (aB aE [aA 0,aA 1,rK (.int 6)]))
 (aU (jP 5 (aF 0 [1,0] (aK (aA 3)) none (aB aE [aA 2,aJ .Add (aJ .Add (aA 1) (rK (.int 1))) (aA 0),rK (.int 2)])))
 (aU (sIf (gX (aP .Eq (aA 4) (rK (.int 0))) (aP .Gt (aA 2) (rK (.int 0))))
 (aU (b7 6 (aB aE [aA 0,aJ .Add (aA 1) (rK (.int 20)),aA 3]))
  (jP 5 (aF 0 [6] (aK (aA 3)) none (aB gK [aA 1,aA 0]))))
 (sIf (aP .Eq (aA 4) (rK (.int 1)))
  (jP 5 (aF 0 [1,2,0] (aK (aA 3)) none (aB aJu [aP .GtE (aB xA [aB aS [aA 2,aA 0]]) (aJ .Add (rK (.int 1)) (aB aE [aA 3,aJ .Add (aA 1) (rK (.int 21)),rK (.int 3)]))])))
  (sIf (gX (aP .Eq (aA 4) (rK (.int 2))) (aP .Gt (aA 2) (rK (.int 0))))
   (aU (b7 7 (aB aE [aA 0,aJ .Add (aA 1) (rK (.int 22)),aA 2]))
    (jP 5 (aF 0 [7,5] (aK (aA 3)) none (rIx (aC 2) (aJ .Sub (aA 0) (aJ .Mult (aJ .Mod (aJ .FloorDiv (aA 0) (rIx (cM [rK (.int 1),rK (.int 2),rK (.int 4),rK (.int 8)]) (aA 1))) (rK (.int 2))) (rIx (cM [rK (.int 1),rK (.int 2),rK (.int 4),rK (.int 8)]) (aA 1))))))))
   (bW))))
 (aU (sIf (gX (aP .Lt (aA 4) (rK (.int 3))) (aP .Eq (aB aE [aA 0,aJ .Add (aA 1) (rK (.int 23)),rK (.int 3)]) (rK (.int 0))))
 (aU (b7 8 (aB aE [aA 0,aJ .Add (aA 1) (rK (.int 24)),aA 3]))
  (aFn 5 (aA 8) (aJ .Sub (rK (.int 1)) (rIx (aC 5) (aA 8)))))
 (bW))
 (bT (eG [aA 2,aB dY [aC 5]])))))))
noncomputable def cH (self:Fn):Fn:=fnOf 3 (aU (jP 1 (cM [eG []]))
 (aU (sIf (rIs (cV) (aA 0))
 (o9 [2] true (aK (aB eU [aC 0]))
  (gC 1 (aF 0 [2] (aB self [rIx (aC 0) (aA 2)]) none (aJ .Add (eG [aA 1]) (aA 0)))))
 (bW))
 (bT (aBd 1))))
noncomputable def qY:Fn:=pT cH 12
noncomputable def eC (self:Fn):Fn:=fnOf 4 (aU (sIf (aP .Eq (aA 1) (eG []))
 (bT (aA 2))
 (bW))
 (aU (b7 3 (rIx (aC 1) (rK (.int 0))))
 (bT (aJ .Add (aJ .Add (gS (aC 0) none (some (aA 3))) (eG [aB self [rIx (aC 0) (aA 3),gS (aC 1) (some (rK (.int 1))) none,aA 2]])) (gS (aC 0) (some (aJ .Add (aA 3) (rK (.int 1)))) none)))))
noncomputable def dA:Fn:=pT eC 12
noncomputable def bA:Fn:=fnOf 9 (aU (b7 3 (aB qY [aA 2]))
 (aU (b7 4 (rIx (aC 3) (aB aE [aA 0,aA 1,aB eU [aC 3]])))
 (aU (b7 5 (aA 2))
 (aU (o9 [6] true (aA 4)
 (b7 5 (rIx (aC 5) (aA 6))))
 (aU (b7 7 (cM [rK (.int 0),rK (.int 1),rK (.int 2),aAw (rK (.int 1)),rK (.int 3),rK (.bl true),rK .non,rK (.str "1"),eG [],eG [rK (.int 0)],eG [rK (.int 1),rK (.int 0)],cM [rK (.int 0),rK (.int 1)],eG [aA 5],eG [aA 5,aA 5]]))
 (aU (b7 8 (aB aE [aA 0,aJ .Add (aA 1) (rK (.int 1)),rK (.int 20)]))
 (aU (sIf (aP .Lt (aA 8) (rK (.int 14)))
 (bT (aB dA [aA 2,aA 4,rIx (aC 7) (aA 8)]))
 (bW))
 (aU (sIf (gX (rIs (cV) (aA 5)) (aP .NotEq (aA 5) (eG [])))
 (aU (b7 6 (aB aE [aA 0,aJ .Add (aA 1) (rK (.int 2)),aB eU [aC 5]]))
  (bT (aB dA [aA 2,aA 4,rIf (aP .Lt (aA 8) (rK (.int 17))) (aJ .Add (gS (aC 5) none (some (aA 6))) (gS (aC 5) (some (aJ .Add (aA 6) (rK (.int 1)))) none)) (aJ .Add (gS (aC 5) none (some (aJ .Add (aA 6) (rK (.int 1))))) (gS (aC 5) (some (aA 6)) none))])))
 (bW))
 (bT (aB dA [aA 2,aA 4,rIf (rIs (kS) (aA 5)) (aJ .Sub (rK (.int 1)) (aA 5)) (rK (.int 7))]))))))))))
noncomputable def dQ:Fn:=fnOf 1 (bT (gX (rIs (kS) (aA 0)) (gX (jO (rIs (rS) (aA 0))) (gB .LtE .LtE (rK (.int 0)) (aA 0) (rK (.int 1))))))
noncomputable def dB:Fn:=fnOf 1 (aU (sIf (rOr (jO (rIs (cV) (aA 0))) (rOr (aP .NotEq (aB eU [aC 0]) (rK (.int 2))) (rOr (jO (rIs (kS) (rIx (aC 0) (rK (.int 0))))) (rIs (rS) (rIx (aC 0) (rK (.int 0)))))))
 (bT (rK (.bl false)))
 (bW))
 (aU (sIf (rOr (jO (gB .LtE .LtE (rK (.int 0)) (rIx (aC 0) (rK (.int 0))) (rK (.int 4)))) (rOr (jO (rIs (cV) (rIx (aC 0) (rK (.int 1))))) (aP .NotEq (aB eU [rIx (aC 0) (rK (.int 1))]) (rIx (cM [rK (.int 1),rK (.int 2),rK (.int 4),rK (.int 8),rK (.int 16)]) (rIx (aC 0) (rK (.int 0)))))))
 (bT (rK (.bl false)))
 (bW))
 (bT (aP .Eq (aF 0 [] (rIx (aC 0) (rK (.int 1))) (some (jO (aB dQ [aA 0]))) (aA 0)) (cM [])))))
noncomputable def fE:Fn:=fnOf 2 (aU (jP 1 (cM [rIs (rT 3) (aA 0),rIs (rT 2) (aA 0),rIs (rT 5) (aA 0),rIs (rT 1) (aA 0)]))
 (aU (gC 1 (cM [rIs (rT 6) (aA 0),rIs (rT 4) (aA 0)]))
 (aU (sIf (rOr (aP .NotEq (pP tJ (aC 1) (rK (.bl true))) (rK (.int 1))) (jO (rIs (rT 100) (aA 0))))
 (bT (rK (.str "wrong")))
 (bW))
 (bT (rIx (cM [rK (.str "no move"),rK (.str "no name"),rK (.str "no sums"),rK (.str "no switch"),rK (.str "no text"),rK (.str "unlike")]) (pP pR (aC 1) (rK (.bl true))))))))
noncomputable def aT:Fn:=fnOf 6 (aU (b7 3 (rK .non))
 (aU (b7 4 (rK .non))
 (aU (aDy 5 3 (fun _=>true)
 (sIf (aP .Eq (aA 0) (rK (.int 0)))
  (b7 4 (aB cP [aA 1,aA 2]))
  (b7 4 (rIf (aP .Eq (aA 0) (rK (.int 1))) (aB cG [aA 1]) (aB cQ [aA 1])))))
 (aU (sIf (aP .Is (aA 3) (rK .non))
 (bT (aA 4))
 (bW))
 (bT (aB fE [aA 3]))))))
noncomputable def eE:Fn:=fnOf 10 (aU (b7 2 (rIx (cM [rK (.int 1),rK (.int 2),rK (.int 4)]) (aA 1)))
 (aU (jP 3 (aF 0 [1] (aK (aA 1)) none (rIx (aB d6 [aA 1,aA 0]) (rK (.int 1)))))
 (aU (b7 4 (aJ .Sub (rK (.int 0)) (rK (.int 1))))
 (aU (tK (aP .NotEq (aA 4) (aB eU [aC 3]))
 (aU (b7 4 (aB eU [aC 3]))
  (o9 [5,6] false (aA 0)
  (aU (sIf (aP .Eq (aA 5) (rK (.int 0)))
   (jP 7 (cM [aJ .Mult (eG [rIx (aC 6) (rK (.int 0))]) (aA 2)]))
   (sIf (aP .Eq (aA 5) (rK (.int 1)))
    (jP 7 (aF 0 [2,6] (aC 3) none (aB dY [aF 0 [0,2] (aK (aA 1)) none (rIx (aC 2) (rIx (aC 1) (aA 0)))])))
    (aU (jP 7 (cM []))
     (xC 8 3 (gC 7 (aF 0 [8,2,6] (aC 3) none (aB dY [aF 0 [1,0,3] (aK (aA 2)) none (rIx (aC 3) (aJ .Add (rIx (aC 1) (aA 0)) (aJ .Mult (rK (.int 2)) (rIx (aC 2) (aA 0)))))])))))))
   (aIj [7] (o9 [9] true (aA 7)
   (sIf (aFm .NotIn (aA 9) 3)
    (aDx 3 (aA 9))
    (bW))))))))
 (bT (aB fM [aC 3]))))))
noncomputable def aN3:Fn:=fnOf 10 (aU (b7 1 (aF 0 [0] (aK (aJ .Add (rK (.int 1)) (aB aE [aA 0,rK (.int 4),rK (.int 2)]))) none (aB cT [aA 1,aJ .Add (rK (.int 10)) (aJ .Mult (rK (.int 40)) (aA 0)),aB aE [aA 1,aA 0,rK (.int 3)]])))
 (aU (b7 2 (rIx (cM [rK (.int 0),rK (.int 1),rK (.int 1),rK (.int 2),rK (.int 2)]) (aB aE [aA 0,rK (.int 5),rK (.int 5)])))
 (aU (b7 3 (cM [rK (.str "keeps 0"),rK (.str "keeps 1"),rK (.str "turned"),rK (.str "rising"),rK (.str "sum")]))
 (aU (b7 4 (aF 0 [] (aC 1) none (aB cF [aA 0])))
 (aU (b7 6 (aF 0 [4] (aC 3) (some (aP .Eq (aF 0 [0] (aC 1) (some (aP .NotIn (aA 1) (aA 0))) (aA 0)) (cM []))) (aA 0)))
 (aU (sIf (rOr (aP .NotEq (aB aT [rK (.int 1),aA 1,rK .non]) (aA 6)) (aP .NotEq (aB aT [rK (.int 2),aA 1,rK .non]) (aP .Eq (aA 6) (cM []))))
 (bT (rK (.bl false)))
 (bW))
 (aU (b7 7 (aB aT [rK (.int 0),aA 1,aA 2]))
 (aU (sIf (aP .NotEq (aA 7) (aF 0 [2] (aB eE [aA 1,aA 2]) none (eG [aA 1,aA 0])))
 (bT (rK (.bl false)))
 (bW))
 (aU (sIf (gX (aP .Eq (aA 2) (rK (.int 2))) (aP .NotEq (aP .Eq (aB eU [aC 7]) (rK (.int 16))) (aP .Eq (aA 6) (cM []))))
 (bT (rK (.bl false)))
 (bW))
 (aU (o9 [5] true (aA 6)
 (sIf (aP .NotEq (aF 0 [5] (aC 7) (some (aP .NotIn (aA 1) (aB cF [aA 0]))) (aA 0)) (cM []))
  (bT (rK (.bl false)))
  (bW)))
 (aU (sIf (rOr (aP .NotEq (aB aT [rK (.int 1),cM [],rK .non]) (aA 3)) (aP .NotEq (aB aT [rK (.int 0),cM [],aA 2]) (aB fM [aF 0 [2] (aK (aA 2)) none (aB d6 [aA 1,aA 0])])))
 (bT (rK (.bl false)))
 (bW))
 (aU (b7 8 (aB aT [rK (.int 0),gS (aC 1) none (some (aAw (rK (.int 1)))),rK (.int 1)]))
 (aU (sIf (aP .NotEq (aF 0 [1] (aC 8) (some (aP .NotIn (aA 0) (aB cP [aA 1,rK (.int 1)]))) (aA 0)) (cM []))
 (bT (rK (.bl false)))
 (bW))
 (aU (sIf (aP .NotEq (aF 0 [1] (eG [aAw (rK (.int 1)),rK (.int 3)]) none (aB aT [rK (.int 0),aA 1,aA 0])) (aJ .Mult (cM [rK (.str "no name")]) (rK (.int 2))))
 (bT (rK (.bl false)))
 (bW))
 (aU (b7 9 (aB bA [aA 0,rK (.int 140),rIx (aC 1) (rK (.int 0))]))
 (bT (rOr (aB dB [aA 9]) (aP .Eq (aF 0 [9,1] (aK (rK (.int 3))) none (aB aT [aA 0,aJ .Add (aA 2) (cM [aA 1]),rK (.int 9)])) (aJ .Mult (cM [rK (.str "no switch")]) (rK (.int 3)))))))))))))))))))))
open PySem
noncomputable abbrev Sc (ns:List Int):D:= .lst (ns.map D.int)
theorem aCz (ns:List Int):plain (Sc ns)=true:=by
 show aH (ns.map D.int)=true
 rw [bG];intro x m;obtain⟨i,_,rfl⟩:=ao.1 m;rfl
noncomputable def wD (ns:List Int) (k:Nat):Int:=if k<ns.length then ns.getD k 0 else if ns=[] then 0 else ns.getD (k % ns.length) 0 * 31+k
theorem aHv (ns:List Int) (k:Nat):gR [Sc ns, .int k]= .ok (.int (wD ns k)):=by
 have h0:eU [Sc ns]= .ok (.int ns.length):=by simp [eU,items]
 by_cases h:k<ns.length
 ·have e:(ns.map D.int)[k]? =some (D.int (wD ns k)):=by simp [wD,h]
  refine aW (cZ ((dN ?_).trans (aR ((dO rfl rfl).trans (dI e)))))
  refine(aZ rfl ((aO rfl).trans h0)).trans ?_
  simp [eF,h]
 ·refine aW ((aD ((cE ((aZ rfl ((aO rfl).trans h0)).trans ?_)).trans rfl)).trans ?_)
  ·simp [eF];omega
  have he:aP .Eq (aA 0) (cM []) [.sh (Sc ns), .sh (.int k)]= .ok (.bl (decide (ns=[]))):=by
   show eF .Eq (Sc ns) (.lst [])=_
   rw [iE (fT (aCz ns) rfl (by decide))]
   cases ns<;>simp [deq,mG]
  by_cases h1:ns=[]
  ·subst h1
   exact cZ ((dN (he.trans rfl)).trans rfl)
  ·refine(aD ((cE (he.trans (by simp [h1]))).trans rfl)).trans (aR ?_)
   have l:0<ns.length:=List.length_pos_iff.2 h1
   have e:(ns.map D.int)[k % ns.length]? =some (D.int (ns.getD (k % ns.length) 0)):=by simp [Nat.mod_lt _ l]
   have e2:jN .Mod (.int k) (.int ns.length)= .ok (.int ((k % ns.length:Nat):Int)):=by
    have:(0:Int)<ns.length:=by omega
    simp [jN,eX,this];omega
   refine(aN ((aN ((dO rfl ((aN rfl ((aO rfl).trans h0)).trans e2)).trans (dI e)) rfl).trans (aEn rfl)) rfl).trans ?_
   simp [jN,eX,wD,h,h1]
noncomputable def g9 (ns:List Int) (k:Nat):Int:=(wD ns k+6151 * (k+1)) * 40692 % 2147483399
noncomputable def zZ (ns:List Int) (k:Nat) (m:Int):Int:=(g9 ns k * g9 ns k+g9 ns k / 31) % 2147483629 % m
theorem aHw (ns:List Int) (k:Nat) {m:Int} (hm:0<m):aE [Sc ns, .int k, .int m]= .ok (.int (zZ ns k m)):=by
 have h1:aJ .Mod (aJ .Mult (aJ .Add (aB gR [aA 0,aA 1]) (aJ .Mult (rK (.int 6151)) (aJ .Add (aA 1) (rK (.int 1))))) (rK (.int 40692))) (rK (.int 2147483399)) [.sh (Sc ns), .sh (.int k), .sh (.int m), .no]= .ok (.int (g9 ns k)):=by
  refine(aN ((aN ((aN ((dZ rfl rfl).trans (aHv ns k)) (y:= .int (6151 * (k+1))) ?_).trans rfl) rfl).trans (?_:_=R.ok (.int ((wD ns k+6151 * (k+1)) * 40692)))) rfl).trans ?_
  ·refine(aN rfl rfl).trans ?_;simp [jN,eX,sml]
  ·simp [jN,eX,sml]
  ·simp [jN,eX,g9]
 refine aW ((aD (aV h1)).trans (aR ?_))
 unfold zZ
 have hs:sml (g9 ns k)=true:=by
  have:0<=g9 ns k/\g9 ns k<2147483399:=by unfold g9;omega
  simp [sml];omega
 generalize g9 ns k=x at *
 have h2:aJ .FloorDiv (aA 3) (rK (.int 31)) [.sh (Sc ns), .sh (.int k), .sh (.int m), .sh (.int (x))]= .ok (.int (x / 31)):=by
  refine(aN rfl rfl).trans ?_;simp [jN,eX]
 have h3:aJ .Mult (aA 3) (aA 3) [.sh (Sc ns), .sh (.int k), .sh (.int m), .sh (.int x)]= .ok (.int (x * x)):=by
  refine(aN rfl rfl).trans ?_;simp [jN,eX,hs]
 refine(aN ((aN ((aN h3 h2).trans rfl) rfl).trans (?_:_=R.ok (.int ((x * x+x / 31) % 2147483629)))) rfl).trans ?_
 ·simp [jN,eX]
 ·exact oR hm
theorem sP (ns:List Int) (k:Nat) {m:Int} (hm:0<m):0<=zZ ns k m/\zZ ns k m<m:=⟨Int.emod_nonneg _ (by omega),Int.emod_lt_of_pos _ hm⟩
def bit (d:D):Prop:=d= .int 0\/d= .int 1
theorem z9 (i:Int):bit (.int (i % 2)):=by
 unfold bit
 rcases(show i % 2=0\/i % 2=1 by omega) with h | h<;>simp [h]
theorem ix4 {a:F} {ρ:Rho} {j:Nat} (h:a ρ= .ok (.int j)) (l:j<4):rIx (cM [rK (.int 1),rK (.int 2),rK (.int 4),rK (.int 8)]) a ρ= .ok (.int ((2 ^ j:Nat):Int)):=by
 refine(lN rfl h).trans (dI ?_)
 rcases(show j=0\/j=1\/j=2\/j=3 by omega) with rfl | rfl | rfl | rfl<;>rfl
theorem ix5 {a:F} {ρ:Rho} {j:Nat} (h:a ρ= .ok (.int j)) (l:j<=4):rIx (cM [rK (.int 1),rK (.int 2),rK (.int 4),rK (.int 8),rK (.int 16)]) a ρ= .ok (.int ((2 ^ j:Nat):Int)):=by
 refine(lN rfl h).trans (dI ?_)
 rcases(show j=0\/j=1\/j=2\/j=3\/j=4 by omega) with rfl | rfl | rfl | rfl | rfl<;>rfl
theorem aAa {m:Nat} (h:m<=4):1<=2 ^ m/\2 ^ m<=16:=by
 rcases(show m=0\/m=1\/m=2\/m=3\/m=4 by omega) with rfl | rfl | rfl | rfl | rfl<;>decide
theorem jJ {m:Nat} (hm:m<=4) (k:Int): ∃ xs,aS [.int m, .int k]= .ok (.tup xs)/\xs.length=m/\ ∀ x∈xs,bit x:=by
 obtain⟨xs,e,l,b⟩:=eA (n:=0) (cs:=[1]) (it:=aK (aA 0)) (e:=aJ .Mod (aJ .FloorDiv (aA 1) (rIx (cM [rK (.int 1),rK (.int 2),rK (.int 4),rK (.int 8)]) (aA 0))) (rK (.int 2))) (ρ:=[.sh (.int m), .sh (.int k)]) (ds:=pQ m) (P:=bit)
  (.inl (cN rfl (by omega))) fun d h=>by
   obtain⟨j,hj,rfl⟩:=gQ h
   have hp:=aAa (m:=j) (by omega)
   refine⟨[.sh (.int j)],_,rfl,(aN ((aN rfl (ix4 (a:=aA 0) (j:=j) rfl (by omega))).trans (zY ?_ ?_)) rfl).trans (oR (by decide)),z9 _⟩<;>omega
 exact⟨xs,aW (aR ((dP e).trans rfl)),l.trans dH,b⟩
theorem aAb: ∀ {xs:List D},(∀ x∈xs, ∃ i,x=D.int i)-> ∃ is:List Int,xs=is.map D.int
 | [],_=>⟨[],rfl⟩
 | x::r,h=>by
  obtain⟨i,rfl⟩:=h x (.head _)
  obtain⟨is,rfl⟩:=aAb (xs:=r) fun y m=>h y (.tail _ m)
  exact⟨i::is,rfl⟩
theorem aHx {d:D} (h:bit d): ∃ i,d= .int i:=by rcases h with rfl | rfl<;>exact⟨_,rfl⟩
theorem aC0 (is:List Int):xA [.lst (is.map D.int)]= .ok (.int is.sum):=by simp [xA,items,qS]
theorem aHy (is:List Int):xA [.tup (is.map D.int)]= .ok (.int is.sum):=by simp [xA,items,qS]
theorem aLs (a b:Int): ∃ r,gK [.int a, .int b]= .ok r/\bit r:=by
 obtain⟨xs,e1,l1,b1⟩:=jJ (m:=4) (by decide) a
 obtain⟨ys,e2,l2,b2⟩:=jJ (m:=4) (by decide) b
 have hz:vP (aB aS [rK (.int 4),aA 0]) (aB aS [rK (.int 4),aA 1]) [.sh (.int a), .sh (.int b)]= .ok (.lst ((xs.zip ys).map fun p=>D.tup [p.1,p.2])):=by
  have h1:aB aS [rK (.int 4),aA 0] [.sh (.int a), .sh (.int b)]= .ok (.tup xs):=(dZ rfl rfl).trans e1
  have h2:aB aS [rK (.int 4),aA 1] [.sh (.int a), .sh (.int b)]= .ok (.tup ys):=(dZ rfl rfl).trans e2
  simp [vP,h1,h2,R.bind]
 obtain⟨zs,e,l,q⟩:=eA (n:=2) (cs:=[]) (e:=aJ .Mult (aA 0) (aA 1)) (P:=fun x=> ∃ i,x=D.int i) (.inl hz) fun d h=>by
  obtain⟨⟨x,y⟩,hm,rfl⟩:=ao.1 h
  obtain⟨mx,my⟩:=List.of_mem_zip hm
  have hx:=b1 x mx;have hy:=b2 y my
  refine⟨[.sh x, .sh y], ?_⟩
  rcases hx with rfl | rfl<;>rcases hy with rfl | rfl<;>exact⟨_,rfl,rfl,_,rfl⟩
 obtain⟨is,rfl⟩:=aAb q
 exact⟨_,aW (aR ((aN ((dP e).trans (aC0 is)) rfl).trans (oR (by decide)))),z9 _⟩
theorem cI (ns:List Int) (k:Nat) {m:Nat} (hm:0<m): ∃ p:Nat,aE [Sc ns, .int k, .int m]= .ok (.int p)/\p<m:=by
 have h:(0:Int)<m:=by omega
 have r:=sP ns k h
 refine⟨(zZ ns k m).toNat,(aHw ns k h).trans ?_,by omega⟩
 rw [Int.toNat_of_nonneg r.1]
theorem aLt {p:Nat} (h:p<2):bit (.int p):=by
 rcases(show p=0\/p=1 by omega) with rfl | rfl
 ·exact .inl rfl
 ·exact .inr rfl
theorem aEq {ws:List D} (h: ∀ w∈ws,bit w) {p:Nat} (hp:p<ws.length): ∃ w,dIx (.lst ws) (.int p)= .ok w/\bit w:=
 ⟨ws[p],dI (ba hp),h _ (List.getElem_mem hp)⟩
theorem aAc (ns:List Int) (at':Nat) {m:Nat} (hm:m<=4): ∃ ws,cT [Sc ns, .int at', .int m]= .ok (.tup [.int m, .tup ws])/\ws.length=2 ^ m/\ ∀ w∈ws,bit w:=by
 have hp:=aAa hm
 obtain⟨way,hw,lw⟩:=cI ns at' (m:=6) (by decide)
 -- the drawn worths
 obtain⟨ws0,e0,l0,b0⟩:=eA (n:=0) (cs:=[1,0]) (it:=aK (aA 3)) (e:=aB aE [aA 2,aJ .Add (aJ .Add (aA 1) (rK (.int 1))) (aA 0),rK (.int 2)]) (P:=bit) (ds:=pQ (2 ^ m))
  (ρ:=[.sh (Sc ns), .sh (.int at'), .sh (.int m), .sh (.int (2 ^ m:Nat)), .sh (.int way), .no, .no, .no, .no]) (.inl (cN rfl (by omega))) fun d h=>by
   obtain⟨j,hj,rfl⟩:=gQ h
   obtain⟨p,hp,lp⟩:=cI ns (at'+1+j) (m:=2) (by decide)
   exact⟨[.sh (.int j)],_,rfl,(bN (x:=Sc ns) (y:= .int ((at'+1+j:Nat):Int)) (z:= .int 2) rfl rfl rfl).trans hp,aLt lp⟩
 rw [dH] at l0
 -- the ways
 have h4: ∃ ws a b,(sIf (gX (aP .Eq (aA 4) (rK (.int 0))) (aP .Gt (aA 2) (rK (.int 0))))
   (aU (b7 6 (aB aE [aA 0,aJ .Add (aA 1) (rK (.int 20)),aA 3]))
    (jP 5 (aF 0 [6] (aK (aA 3)) none (aB gK [aA 1,aA 0]))))
   (sIf (aP .Eq (aA 4) (rK (.int 1)))
    (jP 5 (aF 0 [1,2,0] (aK (aA 3)) none (aB aJu [aP .GtE (aB xA [aB aS [aA 2,aA 0]]) (aJ .Add (rK (.int 1)) (aB aE [aA 3,aJ .Add (aA 1) (rK (.int 21)),rK (.int 3)]))])))
    (sIf (gX (aP .Eq (aA 4) (rK (.int 2))) (aP .Gt (aA 2) (rK (.int 0))))
     (aU (b7 7 (aB aE [aA 0,aJ .Add (aA 1) (rK (.int 22)),aA 2]))
      (jP 5 (aF 0 [7,5] (aK (aA 3)) none (rIx (aC 2) (aJ .Sub (aA 0) (aJ .Mult (aJ .Mod (aJ .FloorDiv (aA 0) (rIx (cM [rK (.int 1),rK (.int 2),rK (.int 4),rK (.int 8)]) (aA 1))) (rK (.int 2))) (rIx (cM [rK (.int 1),rK (.int 2),rK (.int 4),rK (.int 8)]) (aA 1))))))))
     (bW)))) [.sh (Sc ns), .sh (.int at'), .sh (.int m), .sh (.int (2 ^ m:Nat)), .sh (.int way), .ow ws0, .no, .no, .no]
   = .nx [.sh (Sc ns), .sh (.int at'), .sh (.int m), .sh (.int (2 ^ m:Nat)), .sh (.int way), .ow ws,a,b, .no]/\ws.length=2 ^ m/\ ∀ w∈ws,bit w:=by
  have hgt: ∀ ρ:Rho,ρ[2]? =some (.sh (.int m))->aP .Gt (aA 2) (rK (.int 0)) ρ= .ok (.bl (decide (0<m))):=fun ρ h=>by
   refine(aZ (x:= .int m) (by simp [aA,h]) rfl).trans ?_
   simp [eF]
  have hway: ∀ (c:Nat) (ρ:Rho),ρ[4]? =some (.sh (.int way))->aP .Eq (aA 4) (rK (.int c)) ρ= .ok (.bl (decide (way=c))):=fun c ρ h=>by
   refine(aZ (x:= .int way) (by simp [aA,h]) rfl).trans ?_
   rw [iE rfl]
   show R.ok (.bl ((way:Int)==(c:Int)))=_
   congr 2;rw [Bool.eq_iff_iff];simp;omega
  have hand: ∀ c:Nat,gX (aP .Eq (aA 4) (rK (.int c))) (aP .Gt (aA 2) (rK (.int 0))) [.sh (Sc ns), .sh (.int at'), .sh (.int m), .sh (.int (2 ^ m:Nat)), .sh (.int way), .ow ws0, .no, .no, .no]= .ok (.bl (decide (way=c/\0<m))):=fun c=>by
   by_cases h:way=c
   ·refine(iX ((hway c _ rfl).trans (by simp [h]))).trans ((hgt _ rfl).trans (by simp [h]))
   ·refine(uV ((hway c _ rfl).trans (by simp [h]))).trans (by simp [h])
  by_cases w0:way=0/\0<m
  ·obtain⟨mask,hk,lk⟩:=cI ns (at'+20) (m:=2 ^ m) (by omega)
   obtain⟨ws,e,l,b⟩:=eA (n:=0) (cs:=[6]) (it:=aK (aA 3)) (e:=aB gK [aA 1,aA 0]) (P:=bit) (ds:=pQ (2 ^ m))
    (ρ:=[.sh (Sc ns), .sh (.int at'), .sh (.int m), .sh (.int (2 ^ m:Nat)), .sh (.int way), .ow ws0, .sh (.int mask), .no, .no]) (.inl (cN rfl (by omega))) fun d h=>by
     obtain⟨j,hj,rfl⟩:=gQ h
     obtain⟨r,hr,br⟩:=aLs mask j
     exact⟨[.sh (.int j)],_,rfl,(dZ rfl rfl).trans hr,br⟩
   refine⟨ws, .sh (.int mask), .no,(dN ((hand 0).trans (by simp [w0]))).trans ((aD (aV ((bN rfl rfl rfl).trans hk))).trans (eS e)),l.trans dH,b⟩
  by_cases w1:way=1
  ·obtain⟨q,hq,lq⟩:=cI ns (at'+21) (m:=3) (by omega)
   obtain⟨ws,e,l,b⟩:=eA (n:=0) (cs:=[1,2,0]) (it:=aK (aA 3)) (e:=aB aJu [aP .GtE (aB xA [aB aS [aA 2,aA 0]]) (aJ .Add (rK (.int 1)) (aB aE [aA 3,aJ .Add (aA 1) (rK (.int 21)),rK (.int 3)]))]) (P:=bit) (ds:=pQ (2 ^ m))
    (ρ:=[.sh (Sc ns), .sh (.int at'), .sh (.int m), .sh (.int (2 ^ m:Nat)), .sh (.int way), .ow ws0, .no, .no, .no]) (.inl (cN rfl (by omega))) fun d h=>by
     obtain⟨j,hj,rfl⟩:=gQ h
     obtain⟨xs,hs,ls,bs⟩:=jJ hm j
     obtain⟨is,rfl⟩:=aAb fun x m=>aHx (bs x m)
     refine⟨[.sh (.int j)],_,rfl,(aO ((aZ ((aO ((dZ rfl rfl).trans hs)).trans (aHy is)) ((aN rfl ((bN rfl rfl rfl).trans hq)).trans rfl)).trans rfl)).trans rfl, ?_⟩
     unfold b2i;split
     ·exact .inr rfl
     ·exact .inl rfl
   refine⟨ws, .no, .no,(cE ((hand 0).trans (by simp [w0]))).trans ((dN ((hway 1 _ rfl).trans (by simp [w1]))).trans (eS e)),l.trans dH,b⟩
  by_cases w2:way=2/\0<m
  ·obtain⟨nm,hk,lk⟩:=cI ns (at'+22) (m:=m) (by omega)
   obtain⟨ws,e,l,b⟩:=eA (n:=0) (cs:=[7,5]) (it:=aK (aA 3)) (e:=rIx (aC 2) (aJ .Sub (aA 0) (aJ .Mult (aJ .Mod (aJ .FloorDiv (aA 0) (rIx (cM [rK (.int 1),rK (.int 2),rK (.int 4),rK (.int 8)]) (aA 1))) (rK (.int 2))) (rIx (cM [rK (.int 1),rK (.int 2),rK (.int 4),rK (.int 8)]) (aA 1))))) (P:=bit) (ds:=pQ (2 ^ m))
    (ρ:=[.sh (Sc ns), .sh (.int at'), .sh (.int m), .sh (.int (2 ^ m:Nat)), .sh (.int way), .ow ws0, .no, .sh (.int nm), .no]) (.inl (cN rfl (by omega))) fun d h=>by
     obtain⟨j,hj,rfl⟩:=gQ h
     have hpn:=aAa (m:=nm) (by omega)
     have hle:j / 2 ^ nm % 2 * 2 ^ nm<=j:=Nat.le_trans (Nat.mul_le_mul_right _ (Nat.mod_le _ _)) (Nat.div_mul_le_self ..)
     obtain⟨w,hw,bw⟩:=aEq b0 (p:=j - j / 2 ^ nm % 2 * 2 ^ nm) (by omega)
     refine⟨[.sh (.int j)],w,rfl,(dO (x:= .lst ws0) (y:= .int (j - j / 2 ^ nm % 2 * 2 ^ nm:Nat)) rfl ?_).trans hw,bw⟩
     refine(aN rfl ((aN ((aN ((aN rfl (ix4 (a:=aA 1) (j:=nm) rfl (by omega))).trans (zY (by omega) (by omega))) rfl).trans (oR (by decide))) (ix4 (a:=aA 1) (j:=nm) rfl (by omega))).trans (aEn (aLr (by omega) (by omega))))).trans ?_
     show R.ok (D.int ((j:Int) - (j:Int) / ((2 ^ nm:Nat):Int) % 2 * ((2 ^ nm:Nat):Int)))=_
     rw [Int.ofNat_sub hle,Int.natCast_mul,Int.natCast_emod,Int.natCast_ediv];rfl
   refine⟨ws, .no, .sh (.int nm),(cE ((hand 0).trans (by simp [w0]))).trans ((cE ((hway 1 _ rfl).trans (by simp [w1]))).trans ((dN ((hand 2).trans (by simp [w2]))).trans ((aD (aV ((bN rfl rfl rfl).trans hk))).trans (eS e)))),l.trans dH,b⟩
  ·exact⟨ws0, .no, .no,(cE ((hand 0).trans (by simp [w0]))).trans ((cE ((hway 1 _ rfl).trans (by simp [w1]))).trans ((cE ((hand 2).trans (by simp [w2]))).trans rfl)),l0,b0⟩
 obtain⟨ws1,a,b,e1,l1,b1⟩:=h4
 -- one worth turned
 have h5: ∃ ws c,(sIf (gX (aP .Lt (aA 4) (rK (.int 3))) (aP .Eq (aB aE [aA 0,aJ .Add (aA 1) (rK (.int 23)),rK (.int 3)]) (rK (.int 0))))
   (aU (b7 8 (aB aE [aA 0,aJ .Add (aA 1) (rK (.int 24)),aA 3]))
    (aFn 5 (aA 8) (aJ .Sub (rK (.int 1)) (rIx (aC 5) (aA 8)))))
   (bW)) [.sh (Sc ns), .sh (.int at'), .sh (.int m), .sh (.int (2 ^ m:Nat)), .sh (.int way), .ow ws1,a,b, .no]
   = .nx [.sh (Sc ns), .sh (.int at'), .sh (.int m), .sh (.int (2 ^ m:Nat)), .sh (.int way), .ow ws,a,b,c]/\ws.length=2 ^ m/\ ∀ w∈ws,bit w:=by
  obtain⟨q,hq,lq⟩:=cI ns (at'+23) (m:=3) (by omega)
  have hc: ∃ t,gX (aP .Lt (aA 4) (rK (.int 3))) (aP .Eq (aB aE [aA 0,aJ .Add (aA 1) (rK (.int 23)),rK (.int 3)]) (rK (.int 0))) [.sh (Sc ns), .sh (.int at'), .sh (.int m), .sh (.int (2 ^ m:Nat)), .sh (.int way), .ow ws1,a,b, .no]= .ok (.bl t):=by
   have h1:aP .Lt (aA 4) (rK (.int 3)) [.sh (Sc ns), .sh (.int at'), .sh (.int m), .sh (.int (2 ^ m:Nat)), .sh (.int way), .ow ws1,a,b, .no]= .ok (.bl (decide ((way:Int)<3))):=rfl
   by_cases hh:(way:Int)<3
   ·exact⟨_,(iX (h1.trans (by simp [hh]))).trans ((aZ ((bN rfl rfl rfl).trans hq) rfl).trans (iE rfl))⟩
   ·exact⟨_,uV (h1.trans (by simp [hh]))⟩
  obtain⟨t,ht⟩:=hc
  cases t with
  | false=>exact⟨ws1, .no,(cE ht).trans rfl,l1,b1⟩
  | true=>
   obtain⟨pl,hl,ll⟩:=cI ns (at'+24) (m:=2 ^ m) (by omega)
   obtain⟨w,hw,bw⟩:=aEq b1 (p:=pl) (by omega)
   have hb: ∃ v,jN .Sub (.int 1) w= .ok v/\bit v:=by
    rcases bw with rfl | rfl
    ·exact⟨_,rfl, .inr rfl⟩
    ·exact⟨_,rfl, .inl rfl⟩
   obtain⟨v,hv,bv⟩:=hb
   refine⟨ws1.set pl v, .sh (.int pl),(dN ht).trans ((aD (aV ((bN rfl rfl rfl).trans hl))).trans ?_),by simp [l1],fun x mx=> ?_⟩
   ·have hx:(aJ .Sub (rK (.int 1)) (rIx (aC 5) (aA 8))) [.sh (Sc ns), .sh (.int at'), .sh (.int m), .sh (.int (2 ^ m:Nat)), .sh (.int way), .ow ws1,a,b, .sh (.int pl)]= .ok v:=(aN rfl ((dO rfl rfl).trans hw)).trans hv
    have hi:ixD ws1.length (pl:Int)=some pl:=by simp [ixD];omega
    show aFn 5 (aA 8) (aJ .Sub (rK (.int 1)) (rIx (aC 5) (aA 8))) [.sh (Sc ns), .sh (.int at'), .sh (.int m), .sh (.int (2 ^ m:Nat)), .sh (.int way), .ow ws1,a,b, .sh (.int pl)]=_
    unfold aFn;rw [hx];simp [jZ,aA,hi]
   ·rcases List.mem_or_eq_of_mem_set mx with h | rfl
    ·exact b1 x h
    ·exact bv
 obtain⟨ws2,c,e2,l2,b2⟩:=h5
 refine⟨ws2,aW ((aD (aV (ix5 (a:=aA 2) (j:=m) rfl hm))).trans ((aD (aV ((bN rfl rfl rfl).trans hw))).trans ((aD (eS e0)).trans ((aD e1).trans ((aD e2).trans (aR (aHu rfl ((aO rfl).trans rfl)))))))),l2,b2⟩
noncomputable def wb (b:Int):D->Bool
 | .int i=>decide (0<=i)&&decide (i<b)
 | _=>false
theorem fU {x:D} (b:Int) (h:plain x=true):bC [x, .int b]= .ok (.bl (wb b x)):=by
 cases x with
 | int i=>
  exact aW (aR ((iX rfl).trans (zX (i:=0) (j:=i) (k:=b) rfl rfl rfl)))
 | exc c=>exact absurd h (by simp [plain])
 | fn c=>exact absurd h (by simp [plain])
 | _=>rfl
theorem aAd {x:D} {ds:List D} (b:Int) (hx:x= .tup ds\/x= .lst ds) (h:aH ds=true):dJ [x, .int b]= .ok (.bl (ds.all (wb b))):=by
 have e:aF 0 [1] (aC 0) none (aB bC [aA 0,aA 1]) [.sh x, .sh (.int b)]= .ow (ds.map fun d=> .bl (wb b d)):=
  qU (by rcases hx with rfl | rfl;exact .inr (.inl rfl);exact .inl rfl) fun d m=>(dZ rfl rfl).trans (fU b (bG.1 h d m))
 exact aW (aR ((dP e).trans aLp))
noncomputable def aLu (n b:Int):D->Bool
 | .tup ws=>decide ((ws.length:Int)=n)&&ws.all (wb b)
 | _=>false
theorem aHz (i j:Int):eF .Eq (.int i) (.int j)= .ok (.bl (decide (i=j))):=by
 rw [iE (x:= .int i) (y:= .int j) rfl]
 show R.ok (.bl (i==j))=_
 congr 2
theorem aAe (i j:Int):eF .NotEq (.int i) (.int j)= .ok (.bl (!decide (i=j))):=by
 rw [oS (x:= .int i) (y:= .int j) rfl]
 show R.ok (.bl (!(i==j)))=_
 congr 2
theorem qZ {x:D} (n b:Int) (h:plain x=true):oT [x, .int n, .int b]= .ok (.bl (aLu n b x)):=by
 cases x with
 | tup ws=>
  refine aW (aR ((iX rfl).trans ?_))
  have e:aP .Eq (aB eU [aC 0]) (aA 1) [.sh (.tup ws), .sh (.int n), .sh (.int b)]= .ok (.bl (decide ((ws.length:Int)=n))):=(aZ rfl rfl).trans (aHz _ _)
  by_cases hl:(ws.length:Int)=n
  ·exact(iX (e.trans (by simp [hl]))).trans ((dZ rfl rfl).trans ((aAd b (.inl rfl) h).trans (by simp [aLu,hl])))
  ·exact(uV (e.trans (by simp [hl]))).trans (by simp [aLu,hl])
 | exc c=>exact absurd h (by simp [plain])
 | fn c=>exact absurd h (by simp [plain])
 | _=>rfl
theorem uZ {m:Nat} (h:m<=4):aL [.int m]= .ok (.int (2 ^ m:Nat)):=by
 rcases(show m=0\/m=1\/m=2\/m=3\/m=4 by omega) with rfl | rfl | rfl | rfl | rfl<;>rfl
noncomputable def q8:D->Bool
 | .tup [a,b]=>wb 5 a&&(match a with | .int m=>aLu (2 ^ m.toNat:Nat) 2 b | _=>false)
 | _=>false
theorem aEr {b:Int} {x:D} (h:wb b x=true): ∃ m:Nat,x= .int m/\(m:Int)<b:=by
 cases x with
 | int i=>
  simp [wb] at h
  exact⟨i.toNat,by rw [Int.toNat_of_nonneg h.1],by omega⟩
 | _=>simp [wb] at h
theorem fF {d:D} (h:plain d=true):iF [d]= .ok (.bl (q8 d)):=by
 cases d with
 | tup xs=>
  have hl:aP .NotEq (aB eU [aC 0]) (rK (.int 2)) [.sh (.tup xs)]= .ok (.bl (!decide ((xs.length:Int)=2))):=(aZ rfl rfl).trans (aAe _ _)
  by_cases l2:xs.length=2
  ·obtain⟨a,b,rfl⟩: ∃ a b,xs=[a,b]:=by
    match xs,l2 with
    | [a,b],_=>exact⟨a,b,rfl⟩
   have hp:plain a=true/\plain b=true:=by simpa [plain,aH] using h
   have hm:aB gI [rIx (aC 0) (rK (.int 0))] [.sh (.tup [a,b])]= .ok (.bl (wb 5 a)):=(aO rfl).trans (aW (aR ((dZ rfl rfl).trans (fU 5 hp.1))))
   have hc:rOr (jO (rIs (cV) (aA 0))) (rOr (aP .NotEq (aB eU [aC 0]) (rK (.int 2))) (jO (aB gI [rIx (aC 0) (rK (.int 0))]))) [.sh (.tup [a,b])]= .ok (.bl (!wb 5 a)):=
    (fB rfl).trans ((fB (hl.trans rfl)).trans (iD hm))
   cases hw:wb 5 a with
   | false=>exact aW (cZ ((dN (hc.trans (by rw [hw];rfl))).trans (aR (by simp [q8,hw,rK])))) 
   | true=>
    obtain⟨m,rfl,lm⟩:=aEr hw
    refine aW ((aD ((cE (hc.trans (by rw [hw];rfl))).trans rfl)).trans (aR ((bN rfl ((aO rfl).trans (uZ (by omega))) rfl).trans ((qZ _ _ hp.2).trans ?_))))
    simp [q8,hw]
  ·refine aW (cZ ((dN ((fB rfl).trans (wA (hl.trans ?_)))).trans (aR ?_)))
   ·have: ¬ (xs.length:Int)=2:=by omega
    simp [this]
   ·match xs,l2 with
    | [],_=>rfl
    | [_],_=>rfl
    | _::_::_::_,_=>rfl
    | [_,_],h=>exact absurd rfl h
 | exc c=>exact absurd h (by simp [plain])
 | fn c=>exact absurd h (by simp [plain])
 | _=>rfl
theorem aAf {d:D} (h:plain d=true) (s:q8 d=true):aI [d]= .ok .non:=
 zW (ρ:=[.sh d]) ((cE ((iD ((aO rfl).trans (fF h))).trans (by rw [s];rfl))).trans rfl)
theorem aH0 {d:D} (h:plain d=true) (s:q8 d=false):aI [d]= .ex 1:=
 jI (ρ:=[.sh d]) ((dN ((iD ((aO rfl).trans (fF h))).trans (by rw [s];rfl))).trans rfl)
noncomputable def tn:D->D
 | .int i=> .int (1 - i)
 | d=>d
theorem nD {d:D} (h:bit d):plain d=true/\dep d=0:=by rcases h with rfl | rfl<;>exact⟨rfl,rfl⟩
theorem nE {ws:List D} (h: ∀ w∈ws,bit w):aH ws=true:=bG.2 fun x m=>(nD (h x m)).1
theorem aH1 {m:Nat} {ws:List D} (hm:m<=4) (l:ws.length=2 ^ m) (h: ∀ w∈ws,bit w):q8 (.tup [.int m, .tup ws])=true:=by
 have h1:wb 5 (.int m)=true:=by simp [wb];omega
 have h2:ws.all (wb 2)=true:=by
  rw [List.all_eq_true];intro w mw
  rcases h w mw with rfl | rfl<;>rfl
 have h3:q8 (.tup [.int m, .tup ws])=(wb 5 (.int m)&&(decide ((ws.length:Int)=(2 ^ m:Nat))&&ws.all (wb 2))):=rfl
 rw [h3,h1,h2,decide_eq_true (by rw [l])];rfl
theorem aC1 {m:Nat} {ws:List D} (h: ∀ w∈ws,bit w):plain (.tup [.int m, .tup ws])=true:=by
 simp [plain,aH,nE h]
end SK.k52
namespace SK
open PySem
theorem kC {n:Nat} {cs:List Nat} {it e:F} {c:Option F} {ρ:Rho} {ds xs:List D} (hi:it ρ= .ok (.lst ds)\/it ρ= .ok (.tup ds)\/it ρ= .ow ds) (h:bH (dD n (iH cs ρ) c e) ds=some xs):aF n cs it c e ρ= .ow xs:=by
 rcases hi with hi | hi | hi<;>simp [aF,hi,R.bind,items,h]
theorem aH2 {a b:F} {ρ:Rho} {xs ys:List D} (h:a ρ= .ok (.tup xs)) (k:b ρ= .ok (.tup ys)):vP a b ρ= .ok (.lst ((xs.zip ys).map fun p=>D.tup [p.1,p.2])):=by simp [vP,h,k,R.bind]
theorem fG {α:Type} {f:D->Option (Option D)} {h:α->D} {p:α->Bool} {q:α->D}: ∀ {L:List α},(∀ x∈L,f (h x)=some (if p x then some (q x) else none))->bH f (L.map h)=some ((L.filter p).map q)
 | [],_=>rfl
 | x::r,k=>by
  have ih:=fG (L:=r) fun y m=>k y (.tail _ m)
  have a:=k x (.head _)
  cases hp:p x<;>simp [bH,a,hp,ih]
end SK
namespace SK.k52
open SK PySem
noncomputable def bD (b:Bool):D:= .int (b2i b)
noncomputable def sw (m:Nat) (bs:List Bool):D:= .tup [.int m, .tup (bs.map bD)]
def aO2 (m:Nat) (bs:List Bool):Prop:=m<=4/\bs.length=2 ^ m
theorem aLv (b:Bool):bit (bD b):=by
 cases b
 ·exact .inl rfl
 ·exact .inr rfl
theorem aAg: ∀ {ws:List D},(∀ w∈ws,bit w)-> ∃ bs:List Bool,ws=bs.map bD
 | [],_=>⟨[],rfl⟩
 | w::r,h=>by
  obtain⟨bs,rfl⟩:=aAg (ws:=r) fun x m=>h x (.tail _ m)
  rcases h w (.head _) with rfl | rfl
  ·exact⟨false::bs,rfl⟩
  ·exact⟨true::bs,rfl⟩
theorem nF (bs:List Bool): ∀ w∈bs.map bD,bit w:=fun w m=>by obtain⟨b,_,rfl⟩:=ao.1 m;exact aLv b
theorem aH3 {m:Nat} {bs:List Bool} (g:aO2 m bs):q8 (sw m bs)=true:=aH1 g.1 (by simpa using g.2) (nF bs)
theorem aAh (m:Nat) (bs:List Bool):plain (sw m bs)=true:=aC1 (nF bs)
theorem aLw (m:Nat) (bs:List Bool):dep (sw m bs)<=60:=by
 have:=iY fun x mx=>(nD (nF bs x mx)).2
 simp [sw,dep,jM,this]
theorem aC2 (ns:List Int) (at':Nat) {m:Nat} (hm:m<=4): ∃ bs,aO2 m bs/\cT [Sc ns, .int at', .int m]= .ok (sw m bs):=by
 obtain⟨ws,e,l,b⟩:=aAc ns at' hm
 obtain⟨bs,rfl⟩:=aAg b
 exact⟨bs,⟨hm,by simpa using l⟩,e⟩
theorem iZ {op:CmpOp} {a b:F} {ρ:Rho} {x:D} {y:List D} (h:a ρ= .ok x) (k:b ρ= .ow y):aP op a b ρ=eF op x (.lst y):=by simp [aP,h,k,R.bind]
noncomputable def vD (v:List Bool):D:= .tup (v.map bD)
noncomputable def gL (r:List (List Bool)):D:= .tup (r.map vD)
theorem u6: ∀ {x y:List Bool},x.map bD=y.map bD->x=y
 | [],[],_=>rfl
 | [],_::_,h=>by simp at h
 | _::_,[],h=>by simp at h
 | b::x,c::y,h=>by
  rw [List.map_cons,List.map_cons] at h
  injection h with h1 h2
  have:b=c:=by cases b<;>cases c<;>first | rfl | (simp [bD,b2i] at h1)
  rw [this,u6 h2]
theorem u7 {x y:List Bool} (h:vD x=vD y):x=y:=by injection h with h;exact u6 h
theorem aEs {m:Nat} {x y:List Bool} (h:sw m x=sw m y):x=y:=by
 injection h with h
 injection h with _ h
 injection h with h _
 exact u7 h
theorem aC3 {x y:List (List Bool)} (h:gL x=gL y):x=y:=by
 injection h with h
 have inj: ∀ {x y:List (List Bool)},x.map vD=y.map vD->x=y:=by
  intro x
  induction x with
  | nil=>intro y h;cases y with | nil=>rfl | cons _ _=>simp at h
  | cons b x ih=>
   intro y h
   cases y with
   | nil=>simp at h
   | cons c y=>
    rw [List.map_cons,List.map_cons] at h
    injection h with h1 h2
    rw [u7 h1,ih h2]
 exact inj h
theorem jK: ∀ {x y:List Bool},x.length=y.length->a8 (x.map bD) (y.map bD)=true
 | [],[],_=>rfl
 | [],_::_,h=>by simp at h
 | _::_,[],h=>by simp at h
 | x::xs,y::ys,h=>by
  have:same (bD x) (bD y)=true:=rfl
  simp only [List.map_cons,a8,this,Bool.true_and]
  exact jK (by simpa using h)
theorem aAi {x y:List Bool} (h:x.length=y.length):same (vD x) (vD y)=true:=jK h
theorem aH4 {m:Nat} {x y:List Bool} (h:x.length=y.length):same (sw m x) (sw m y)=true:=by
 show(same (.int m) (.int m)&&(same (.tup (x.map bD)) (.tup (y.map bD))&&true))=true
 simp only [same,jK h];rfl
theorem q9 {c:Nat}: ∀ {x y:List (List Bool)},x.length=y.length->(∀ a∈x,a.length=c)->(∀ a∈y,a.length=c)->a8 (x.map vD) (y.map vD)=true
 | [],[],_,_,_=>rfl
 | [],_::_,h,_,_=>by simp at h
 | _::_,[],h,_,_=>by simp at h
 | x::xs,y::ys,h,h1,h2=>by
  simp only [List.map_cons,a8,aAi ((h1 x (.head _)).trans (h2 y (.head _)).symm),Bool.true_and]
  exact q9 (by simpa using h) (fun a ha=>h1 a (.tail _ ha)) fun a ha=>h2 a (.tail _ ha)
theorem aAj (v:List Bool):dep (vD v)=1:=by
 show jM _+1=1
 rw [iY fun d hd=>by obtain⟨b,_,rfl⟩:=ao.mp hd;rfl]
theorem aC4 (r:List (List Bool)):dep (gL r)<=2:=by
 have: ∀ r:List (List Bool),jM (r.map vD)<=1:=by
  intro r;induction r with
  | nil=>exact bq _
  | cons x r ih=>show max (dep (vD x)) (jM (r.map vD))<=1;rw [aAj];omega
 show jM _+1<=2
 have:=this r;omega
theorem aAk {m:Nat} (x:List Bool):dep (sw m x)=2:=by
 have:jM (x.map bD)=0:=iY fun d hd=>by obtain⟨b,_,rfl⟩:=ao.mp hd;rfl
 simp [sw,dep,jM,this]
theorem aLx {α:Type} {h:α->D}: ∀ {l:List D} {R:List α},(∀ d∈l,d∈R.map h)-> ∃ R':List α,l=R'.map h/\ ∀ r∈R',r∈R
 | [],_,_=>⟨[],rfl,nofun⟩
 | d::l,R,hh=>by
  obtain⟨r,hr,rfl⟩:=ao.mp (hh d (.head _))
  obtain⟨R',rfl,q⟩:=aLx (l:=l) (R:=R) fun d hd=>hh d (.tail _ hd)
  refine⟨r::R',rfl,fun x hx=> ?_⟩
  rcases aq.mp hx with rfl | hx
  ·exact hr
  ·exact q x hx
theorem gH {α:Type} [DecidableEq α]: ∀ {l L:List α},l.Nodup->(∀ x∈l,x∈L)->l.length<=L.length
 | [],_,_,_=>bq _
 | x::l,L,nd,h=>by
  rw [List.nodup_cons] at nd
  have hx:=h x (.head _)
  have:=gH (l:=l) (L:=L.erase x) nd.2 fun y hy=>by
   have hne:y≠x:=fun e=>nd.1 (by rw [<-e];exact hy)
   exact(List.mem_erase_of_ne hne).mpr (h y (.tail _ hy))
  rw [List.length_erase_of_mem hx] at this
  have:0<L.length:=List.length_pos_of_mem hx
  simp only [bo];omega
theorem jW {α β:Type} {h:α->β}: ∀ {l:List α},(l.map h).Nodup->l.Nodup
 | [],_=>List.nodup_nil
 | x::l,nd=>by
  rw [List.map_cons,List.nodup_cons] at nd
  rw [List.nodup_cons]
  exact⟨fun hx=>nd.1 (ao.mpr ⟨x,hx,rfl⟩),jW nd.2⟩
theorem lQ {α β:Type} {h:α->β} (inj: ∀ {x y},h x=h y->x=y): ∀ {l:List α},l.Nodup->(l.map h).Nodup
 | [],_=>List.nodup_nil
 | x::l,nd=>by
  rw [List.nodup_cons] at nd
  rw [List.map_cons,List.nodup_cons]
  refine⟨fun hx=> ?_,lQ inj nd.2⟩
  obtain⟨y,hy,e⟩:=ao.mp hx
  exact nd.1 (inj e▸hy)
theorem wE {l:List D} (ho:One l):(lM l).Nodup:=(dG _).nodup_iff.mpr (oN ho)
theorem lS {α:Type} {h:α->D} (inj: ∀ {x y},h x=h y->x=y) {R:List α} (ho:One (R.map h)): ∃ R':List α,lM (R.map h)=R'.map h/\R'.Nodup/\ ∀ r,r∈R'↔r∈R:=by
 obtain⟨R',e,q⟩:=aLx (h:=h) (l:=lM (R.map h)) (R:=R) fun d hd=>(oO ho d).mp hd
 refine⟨R',e,jW (e▸wE ho),fun r=>⟨q r,fun hr=> ?_⟩⟩
 have:h r∈lM (R.map h):=(oO ho _).mpr (ao.mpr ⟨r,hr,rfl⟩)
 rw [e] at this
 obtain⟨r',hr',e'⟩:=ao.mp this
 exact inj e'▸hr'
theorem aAl {l:List D} (h1: ∀ d∈l,eJ d=true) (h2: ∀ d∈l,dep d<=8) (h3:One l) (h64:(ddD l).length<64):dSS [.lst l]= .ow (lM l):=by
 cases l with
 | nil=>rfl
 | cons d r=>exact aLf (uQ (by simp) h1 h2 h3) h64
theorem sQ {l:List D} (h1: ∀ d∈l,eJ d=true) (h2: ∀ d∈l,dep d<=8) (h3:One l) (h64:l.length<64):fM [.lst l]= .ow (d8 l):=by
 cases l with
 | nil=>rfl
 | cons d r=>exact v8 (uQ (by simp) h1 h2 h3) h64
theorem aH5 {l:List D} (ho:One l) (nd:l.Nodup):ddD l=l:=by
 have go: ∀ (r acc:List D),One (acc++r)->(acc++r).Nodup->r.foldl jY acc=acc++r:=by
  intro r
  induction r with
  | nil=>intro acc _ _;simp
  | cons d r ih=>
   intro acc ho nd
   have hne:acc.any (fun e=>deq e d)=false:=by
    rw [Bool.eq_false_iff]
    intro h
    obtain⟨e,he,hd⟩:=List.any_eq_true.mp h
    have:e=d:=(sK (ho e (List.mem_append_left _ he) d (bp _ (.head _)))).mp hd
    subst this
    rw [List.nodup_append] at nd
    exact nd.2.2 e he e (.head _) rfl
   show r.foldl jY (jY acc d)=_
   have e1:jY acc d=acc++[d]:=by unfold jY;rw [hne];rfl
   rw [e1,ih (acc++[d]) (by simpa using ho) (by simpa using nd)]
   simp
 exact go l [] (by simpa using ho) (by simpa using nd)
theorem rB {l:List D} (ho:One l) (nd:l.Nodup):lM l=d8 l:=by unfold lM;rw [aH5 ho nd]
theorem rC {h:D->D} (hh: ∀ x y,ltD (h x) (h y)=ltD x y): ∀ l:List D,d8 (l.map h)=(d8 l).map h
 | []=>rfl
 | x::l=>by
  have ins: ∀ l:List D,wL (h x) (l.map h)=(wL x l).map h:=by
   intro l;induction l with
   | nil=>rfl
   | cons y l ih=>
    show(if ltD (h y) (h x) then h y::wL (h x) (l.map h) else h x::h y::l.map h)=_
    rw [hh,ih]
    show _=(if ltD y x then y::wL x l else x::y::l).map h
    split<;>rfl
  show wL (h x) (d8 (l.map h))=(wL x (d8 l)).map h
  rw [rC hh l,ins]
abbrev Vec:=List Bool
noncomputable def res (N:Nat) (f:Nat×List Bool) (X:List Vec):List Vec:=match f.1 with
 | 0=>[ak N (f.2.getD 0 false)]
 | 1=>X.map fun x=>x.map fun b=>f.2.getD b.toNat false
 | _=>X.flatMap fun x=>X.map fun y=>List.zipWith (fun b c=>f.2.getD (b.toNat+2 * c.toNat) false) x y
theorem u8 {N:Nat} {f:Nat×List Bool} {X Y:List Vec} (h: ∀ x∈X,x∈Y): ∀ v∈res N f X,v∈res N f Y:=by
 intro v hv
 unfold res at hv ⊢
 split at hv
 ·exact hv
 ·obtain⟨x,hx,rfl⟩:=ao.mp hv
  exact ao.mpr ⟨x,h x hx,rfl⟩
 ·obtain⟨x,hx,hv⟩:=List.mem_flatMap.mp hv
  obtain⟨y,hy,rfl⟩:=ao.mp hv
  exact List.mem_flatMap.mpr ⟨x,h x hx,ao.mpr ⟨y,h y hy,rfl⟩⟩
theorem lT {N:Nat} {f:Nat×List Bool} {X:List Vec} (h: ∀ x∈X,x.length=N): ∀ v∈res N f X,v.length=N:=by
 intro v hv
 unfold res at hv
 split at hv
 ·rw [List.mem_singleton.mp hv];simp
 ·obtain⟨x,hx,rfl⟩:=ao.mp hv
  simp [h x hx]
 ·obtain⟨x,hx,hv⟩:=List.mem_flatMap.mp hv
  obtain⟨y,hy,rfl⟩:=ao.mp hv
  simp [h x hx,h y hy]
def Cl (N:Nat) (Fs:List (Nat×List Bool)) (T:Vec->Prop):Prop:= ∀ f∈Fs, ∀ X:List Vec,(∀ x∈X,T x)-> ∀ v∈res N f X,T v
noncomputable def kF:Nat->List Vec
 | 0=>[[]]
 | n+1=>(kF n).flatMap fun v=>[v++[false],v++[true]]
theorem bK: ∀ {n:Nat} {v:Vec},v∈kF n↔v.length=n
 | 0,v=>by simp [kF]
 | n+1,v=>by
  simp only [kF,List.mem_flatMap]
  constructor
  ·rintro⟨u,hu,h⟩
   have:=bK.1 hu
   simp only [aq,List.not_mem_nil,or_false] at h
   rcases h with rfl | rfl<;>simp [this]
  ·intro h
   rcases List.eq_nil_or_concat v with rfl | ⟨u,x,rfl⟩
   ·simp at h
   ·refine⟨u,bK.2 (by simpa using h), ?_⟩
    cases x<;>simp
theorem i0: ∀ n:Nat,(kF n).length=2 ^ n
 | 0=>rfl
 | n+1=>by
  have h: ∀ L:List Vec,(L.flatMap fun v=>[v++[false],v++[true]]).length=2 * L.length:=by
   intro L;induction L with
   | nil=>rfl
   | cons x r ih=>simp only [List.flatMap_cons,bn,ih,bo,List.length_nil];omega
  rw [kF,h,i0 n,Nat.pow_succ];omega
theorem eT {N:Nat} (hN:N<=4) {X:List Vec} (nd:X.Nodup) (h: ∀ x∈X,x.length=N):X.length<=16:=by
 have:=gH nd fun x hx=>bK.2 (h x hx)
 rw [i0] at this
 have:2 ^ N<=2 ^ 4:=Nat.pow_le_pow_right (by decide) hN
 omega
theorem fH {α:Type} {t:D->Rho->Option Rho} {b:FS} {h:α->D} {S:List α->Rho->Prop} {L:List α} (H: ∀ pre x suf,L=pre++x::suf-> ∀ ρ,S pre ρ-> ∃ ρ1 ρ2,t (h x) ρ=some ρ1/\b ρ1= .nx ρ2/\S (pre++[x]) ρ2) {ρ:Rho} (h0:S [] ρ): ∃ ρ',bX t b (L.map h) ρ= .nx ρ'/\S L ρ':=by
 have go: ∀ (suf pre:List α) (ρ:Rho),L=pre++suf->S pre ρ-> ∃ ρ',bX t b (suf.map h) ρ= .nx ρ'/\S L ρ':=by
  intro suf
  induction suf with
  | nil=>intro pre ρ e s;exact⟨ρ,rfl,by rw [e,List.append_nil];exact s⟩
  | cons x r ih=>
   intro pre ρ e s
   obtain⟨ρ1,ρ2,a,k,s2⟩:=H pre x r e ρ s
   obtain⟨ρ',e',s'⟩:=ih (pre++[x]) ρ2 (by simp [e]) s2
   exact⟨ρ',by simp [bX,a,k,e'],s'⟩
 exact go L [] ρ rfl h0
theorem dC {α:Type} {L:List α} {h q:α->D} {cs:List Nat} {it e:F} {ρ:Rho} (hi:it ρ= .ok (.lst (L.map h))\/it ρ= .ok (.tup (L.map h))\/it ρ= .ow (L.map h)) (k: ∀ x∈L,e (.sh (h x)::iH cs ρ)= .ok (q x)):aF 0 cs it none e ρ= .ow (L.map q):=by
 refine kC hi ?_
 rw [fG (p:=fun _=>true) (q:=q) fun x mx=> ?_]
 ·rw [List.filter_eq_self.2 fun _ _=>rfl]
 ·simp [dD,tgt,k x mx]
theorem sR {i:Nat} {e:F} {ρ:Rho} {xs ys:List D} (h:ρ[i]? =some (.ow xs)) (k:e ρ= .ok (.lst ys)\/e ρ= .ow ys) (l:xs.length+ys.length<=10000):gC i e ρ= .nx (ρ.set i (.ow (xs++ys))):=by
 have:xs.length+ys.length<=LIM:=by
  have:LIM=100000:=rfl
  omega
 rcases k with k | k<;>simp [gC,h,k,jZ,this]
noncomputable def stp (e:List Bool) (b:Bool):List Bool:=dS e b.toNat
theorem aN4 (e:List Bool) (b:Bool):rR (vD e) (bD b)= .ok (vD (stp e b)):=by
 have h: ∀ i:Nat,dS (e.map bD) i=(dS e i).map bD:=fun i=>by
  unfold dS
  rw [am,List.map_filterMap]
  congr 1
  funext k
  rw [List.getElem?_map]
 show(if(0:Int)<=b2i b then R.ok (.tup (dS (e.map bD) (b2i b).toNat)) else .bad)=_
 cases b
 ·rw [if_pos (by decide),h];rfl
 ·rw [if_pos (by decide),h];rfl
noncomputable def l7 (r:List (List Bool)) (x:Vec):List (List Bool):=List.zipWith stp r x
theorem aC5 (r:List (List Bool)) (x:Vec):(r.zip x).map (fun p=>stp p.1 p.2)=l7 r x:=by
 unfold l7
 induction r generalizing x with
 | nil=>simp
 | cons e r ih=>cases x with
  | nil=>simp
  | cons b x=>simp [ih]
theorem aC6 {m:Nat} (r:List (List Bool)) (x:Vec):cO [gL r,sw m x]= .ok (gL (l7 r x)):=by
 have e:aF 2 [] (vP (aA 0) (rIx (aC 1) (rK (.int 1)))) none (xB (aC 0) (aA 1)) [.sh (gL r), .sh (sw m x)]= .ow ((r.zip x).map fun p=>vD (stp p.1 p.2)):=by
  refine kC (ds:=(r.zip x).map fun p=>D.tup [vD p.1,bD p.2]) (.inl ?_) ?_
  ·rw [aH2 (xs:=r.map vD) (ys:=x.map bD) rfl rfl,List.zip_map,List.map_map];rfl
  ·rw [fG (p:=fun _=>true) (q:=fun p=>vD (stp p.1 p.2)) fun p mp=> ?_]
   ·rw [List.filter_eq_self.2 fun _ _=>rfl]
   ·have:xB (aC 0) (aA 1) [.sh (vD p.1), .sh (bD p.2)]= .ok (vD (stp p.1 p.2)):=aN4 p.1 p.2
    simp [dD,tgt,iH,this]
 refine aW (aR ((dP e).trans ?_))
 show R.ok (.tup _)=_
 rw [show((r.zip x).map fun p=>vD (stp p.1 p.2))=(l7 r x).map vD by rw [<-aC5,List.map_map];rfl]
 rfl
structure Rws (N c:Nat) (R:List (List (List Bool))):Prop where
 len: ∀ r∈R,r.length=N
 each: ∀ r∈R, ∀ e∈r,e.length=c
theorem aH6 {c:Nat} (hc:c=1\/c=2) {e:List Bool} (he:e.length=2 * c) (b:Bool):(stp e b).length=c:=by
 rcases hc with rfl | rfl
 ·match e,he with
  | [x,y],_=>exact(by decide+kernel: ∀ x y b:Bool,(stp [x,y] b).length=1) x y b
 ·match e,he with
  | [x,y,z,t],_=>exact(by decide+kernel: ∀ x y z t b:Bool,(stp [x,y,z,t] b).length=2) x y z t b
theorem u9 {α β γ:Type} {f:α->β->γ}: ∀ {A:List α} {B:List β} {z:γ},z∈List.zipWith f A B-> ∃ x∈A, ∃ y∈B,z=f x y
 | [],_,z,h=>by simp at h
 | _::_,[],z,h=>by simp at h
 | x::A,y::B,z,h=>by
  rw [List.zipWith_cons_cons] at h
  rcases aq.mp h with rfl | h
  ·exact⟨x, .head _,y, .head _,rfl⟩
  ·obtain⟨x',h1,y',h2,e⟩:=u9 h
   exact⟨x', .tail _ h1,y', .tail _ h2,e⟩
theorem vA {N c:Nat} (hc:c=1\/c=2) {r:List (List Bool)} {x:Vec} (hr:r.length=N) (he: ∀ e∈r,e.length=2 * c) (hx:x.length=N):(l7 r x).length=N/\ ∀ e∈l7 r x,e.length=c:=by
 refine⟨by simp [l7,hr,hx],fun e h=> ?_⟩
 obtain⟨e',h1,b,_,rfl⟩:=u9 h
 exact aH6 hc (he e' h1) b
theorem aC7 {N c:Nat} {R:List (List (List Bool))} (h:Rws N c R):One (R.map gL):=fun x hx y hy=>by
 obtain⟨x,mx,rfl⟩:=ao.mp hx
 obtain⟨y,my,rfl⟩:=ao.mp hy
 exact q9 ((h.len x mx).trans (h.len y my).symm) (h.each x mx) (h.each y my)
theorem aC8 {N:Nat} (hN:N<=4) {R:List (List (List Bool))} (h:Rws N 1 R) (nd:R.Nodup):R.length<=16:=by
 have:=gH (L:=(kF N).map fun v=>v.map fun b=>[b]) nd fun r hr=>by
  refine ao.mpr ⟨r.map fun e=>e.headD false,bK.2 (by rw [am];exact h.len r hr), ?_⟩
  rw [List.map_map]
  conv=>rhs;rw [<-List.map_id r]
  refine List.map_congr_left fun e he=> ?_
  match e,h.each r hr e he with
  | [b],_=>rfl
 rw [am,i0] at this
 have:2 ^ N<=2 ^ 4:=Nat.pow_le_pow_right (by decide) hN
 omega
noncomputable def lU:FS:=(aU (jP 5 (cM []))
  (aU (o9 [6] true (aA 3)
  (gC 5 (aF 0 [6] (aC 2) none (aB cO [aA 1,aA 0]))))
  (aIj [5] (b7 3 (aB dSS [aC 5])))))
section
variable {m N c:Nat} {X:List Vec} {R:List (List (List Bool))}
theorem aH7 (hN:N=2 ^ m) (hm:m<=2) (hX: ∀ x∈X,x.length=N) (lX:X.length<=16) (hc:c=1\/c=2) (hR:Rws N (2 * c) R) (lR:R.length<=63) (few:c=1\/R.length<=1) (s0 s1 s4 s5 s6:Slot):
  ∃ R' s5' s6',lU [s0,s1, .sh (.lst (X.map (sw m))), .sh (.lst (R.map gL)),s4,s5,s6]= .nx [s0,s1, .sh (.lst (X.map (sw m))), .sh (.lst (R'.map gL)),s4,s5',s6']/\R'.length<=63/\Rws N c R'/\ ∀ r,r∈R'↔ ∃ q∈R, ∃ x∈X,r=l7 q x:=by
 have hN4:1<=N/\N<=4:=by
  rw [hN]
  rcases(show m=0\/m=1\/m=2 by omega) with rfl | rfl | rfl<;>decide
 obtain⟨ρ',e,s6',rfl⟩:=fH (t:=fJ [6] true) (b:=gC 5 (aF 0 [6] (aC 2) none (aB cO [aA 1,aA 0]))) (h:=gL) (L:=R) (ρ:=[s0,s1, .sh (.lst (X.map (sw m))), .sh (.lst (R.map gL)),s4, .ow [],s6])
  (S:=fun pre ρ=> ∃ s6',ρ=[s0,s1, .sh (.lst (X.map (sw m))), .sh (.lst (R.map gL)),s4, .ow ((pre.flatMap fun q=>X.map (l7 q)).map gL),s6']) (fun pre q suf eL ρ=>by
   rintro⟨s6',rfl⟩
   have hl: ∀ pre:List (List (List Bool)),(pre.flatMap fun q=>X.map (l7 q)).length=pre.length * X.length:=by
    intro pre;induction pre with
    | nil=>simp
    | cons a r ih=>simp only [List.flatMap_cons,bn,am,ih,bo,Nat.succ_mul];omega
   have hp:pre.length<=63:=by
    rw [eL] at lR;simp only [bn,bo] at lR;omega
   have hmul:pre.length * X.length<=63 * 16:=Nat.mul_le_mul hp lX
   refine⟨_,_,rfl,sR (xs:=(pre.flatMap fun q=>X.map (l7 q)).map gL) (ys:=(X.map (l7 q)).map gL) rfl (.inr ?_) (by rw [am,am,am,hl];omega), .sh (gL q), ?_⟩
   ·rw [List.map_map]
    exact dC (L:=X) (h:=sw m) (.inl rfl) fun x _=>(dZ rfl rfl).trans (aC6 q x)
   ·simp) ⟨s6,rfl⟩
 generalize hL:(R.flatMap fun q=>X.map (l7 q))=L at e
 have memL: ∀ r,r∈L↔ ∃ q∈R, ∃ x∈X,r=l7 q x:=fun r=>by
  rw [<-hL,List.mem_flatMap]
  constructor
  ·rintro⟨q,hq,h⟩;obtain⟨x,hx,rfl⟩:=ao.mp h;exact⟨q,hq,x,hx,rfl⟩
  ·rintro⟨q,hq,x,hx,rfl⟩;exact⟨q,hq,ao.mpr ⟨x,hx,rfl⟩⟩
 have rwL:Rws N c L:=⟨fun r hr=>by
   obtain⟨q,hq,x,hx,rfl⟩:=(memL r).mp hr
   exact(vA hc (hR.len q hq) (hR.each q hq) (hX x hx)).1,fun r hr=>by
   obtain⟨q,hq,x,hx,rfl⟩:=(memL r).mp hr
   exact(vA hc (hR.len q hq) (hR.each q hq) (hX x hx)).2⟩
 have ho:=aC7 rwL
 obtain⟨R',e',nd',mem'⟩:=lS (h:=gL) aC3 ho
 have rw':Rws N c R':=⟨fun r hr=>rwL.len r ((mem' r).mp hr),fun r hr=>rwL.each r ((mem' r).mp hr)⟩
 have lR':R'.length<=63:=by
  rcases few with rfl | h1
  ·have:=aC8 hN4.2 rw' nd';omega
  ·have h1:=gH nd' fun r hr=>(mem' r).mp hr
   have h2:L.length=R.length * X.length:=by
    rw [<-hL]
    have hl: ∀ pre:List (List (List Bool)),(pre.flatMap fun q=>X.map (l7 q)).length=pre.length * X.length:=by
     intro pre;induction pre with
     | nil=>simp
     | cons a r ih=>simp only [List.flatMap_cons,bn,am,ih,bo,Nat.succ_mul];omega
    exact hl R
   have h3:R.length * X.length<=1 * 16:=Nat.mul_le_mul (by omega) lX
   omega
 have hss:dSS [.lst (L.map gL)]= .ow (R'.map gL):=by
  rw [<-e']
  refine aAl (fun d hd=> ?_) (fun d hd=> ?_) ho ?_
  ·obtain⟨r,hr,rfl⟩:=ao.mp hd
   have:=rwL.len r hr
   match r,this with
   | [],h=>simp at h;omega
   | a::r,_=>rfl
  ·obtain⟨r,_,rfl⟩:=ao.mp hd
   have:=aC4 r;omega
  ·have:(lM (L.map gL)).length=R'.length:=by rw [e',am]
   rw [uP] at this
   omega
 refine⟨R', .sh (.lst (L.map gL)),s6',(aD (eS (d:=[]) rfl)).trans ((aD ((eB (ds:=R.map gL) (.inl rfl)).trans e)).trans ?_),lR',rw',fun r=>(mem' r).trans (memL r)⟩
 exact cD ((aO (x:= .lst (L.map gL)) rfl).trans hss)
end
theorem sS {w:List Bool}: ∀ {x:Vec},l7 (ak x.length w) x=x.map fun b=>stp w b
 | []=>rfl
 | b::x=>by
  show List.zipWith stp (w::ak x.length w) (b::x)=_
  rw [List.zipWith_cons_cons]
  have:=sS (w:=w) (x:=x)
  unfold l7 at this
  rw [this];rfl
theorem aN5 {w:List Bool} (h:w.length=2) (b:Bool):(stp w b).headD false=w.getD b.toNat false:=by
 match w,h with
 | [x,y],_=>exact(by decide+kernel: ∀ x y b:Bool,(stp [x,y] b).headD false=[x,y].getD b.toNat false) x y b
theorem aN6 {w:List Bool} (h:w.length=4) (b c:Bool):(stp (stp w b) c).headD false=w.getD (b.toNat+2 * c.toNat) false:=by
 match w,h with
 | [x,y,z,t],_=>exact(by decide+kernel: ∀ x y z t b c:Bool,(stp (stp [x,y,z,t] b) c).headD false=[x,y,z,t].getD (b.toNat+2 * c.toNat) false) x y z t b c
theorem vB {w:List Bool} (h:w.length=4): ∀ {x y:Vec},x.length=y.length->(l7 (x.map fun b=>stp w b) y).map (fun e=>e.headD false)=List.zipWith (fun b c=>w.getD (b.toNat+2 * c.toNat) false) x y
 | [],[],_=>rfl
 | [],_::_,h=>by simp at h
 | _::_,[],h=>by simp at h
 | b::x,c::y,hl=>by
  have:=vB h (x:=x) (y:=y) (by simpa using hl)
  unfold l7 at this ⊢
  simp only [List.map_cons,List.zipWith_cons_cons,this,aN6 h]
theorem aLy {m:Nat} (hm:m<=2) (w:List Bool):jN .Mult (.tup [vD w]) (.int ((2 ^ m:Nat):Int))= .ok (gL (ak (2 ^ m) w)):=by
 rcases(show m=0\/m=1\/m=2 by omega) with rfl | rfl | rfl<;>rfl
def okF (f:Nat×List Bool):Prop:=f.1<=2/\f.2.length=2 ^ f.1
noncomputable def fD (f:Nat×List Bool):D:=sw f.1 f.2
section
variable {m N:Nat} {X:List Vec} {f:Nat×List Bool}
theorem wF (hN:N=2 ^ m) (hm:m<=2) (hX: ∀ x∈X,x.length=N) (lX:X.length<=16) (hf:okF f):
  ∃ Y:List Vec,eP [fD f, .int (m:Nat), .lst (X.map (sw m))]= .ow (Y.map (sw m))/\Y.length<=63/\ ∀ v,v∈Y↔v∈res N f X:=by
 obtain⟨k,w⟩:=f
 obtain⟨hk,hw⟩:=hf
 have hk:k<=2:=hk
 have hw:w.length=2 ^ k:=hw
 have hN1:1<=N:=by rw [hN];exact Nat.one_le_two_pow
 have e0:cM [aJ .Mult (eG [rIx (aC 0) (rK (.int 1))]) (aB aL [aA 1])] [.sh (sw k w), .sh (.int (m:Nat)), .sh (.lst (X.map (sw m))), .no, .no, .no, .no]= .ow [gL (ak N w)]:=by
  have:aJ .Mult (eG [rIx (aC 0) (rK (.int 1))]) (aB aL [aA 1]) [.sh (sw k w), .sh (.int (m:Nat)), .sh (.lst (X.map (sw m))), .no, .no, .no, .no]= .ok (gL (ak N w)):=by
   rw [hN]
   exact(aN (x:= .tup [vD w]) rfl ((aO rfl).trans (uZ (by omega)))).trans (aLy hm w)
  simp [cM,o8,args,this,RA.cons,RA.then]
 -- the end: heads of rows
 have fin: ∀ (R:List (List (List Bool))) (s4 s5 s6:Slot),(∀ r∈R, ∀ e∈r,e.length=1)->aF 0 [1] (aC 3) none (eG [aA 1,aB dY [aF 0 [] (aC 0) none (rIx (aC 0) (rK (.int 0)))]]) [.sh (sw k w), .sh (.int (m:Nat)), .sh (.lst (X.map (sw m))), .sh (.lst (R.map gL)),s4,s5,s6]= .ow ((R.map fun r=>r.map fun e=>e.headD false).map (sw m)):=by
  intro R s4 s5 s6 hR
  rw [List.map_map]
  refine dC (L:=R) (h:=gL) (.inl rfl) fun r hr=> ?_
  have hi:aF 0 [] (aC 0) none (rIx (aC 0) (rK (.int 0))) [.sh (gL r), .sh (.int (m:Nat))]= .ow (r.map fun e=>bD (e.headD false)):=
   dC (L:=r) (h:=vD) (.inr (.inl rfl)) fun e he=>by
    match e,hR r hr e he with
    | [b],_=>rfl
  refine(aHu (x:= .int (m:Nat)) rfl ((dP hi).trans rfl)).trans ?_
  show SK.R.ok (.tup [.int (m:Nat), .tup (r.map fun e=>bD (e.headD false))])=SK.R.ok (sw m (r.map fun e=>e.headD false))
  unfold sw
  rw [List.map_map];rfl
 have lenN: ∀ q∈[ak N w],q.length=N/\ ∀ e∈q,e.length=2 ^ k:=fun q hq=>by
  rw [List.mem_singleton.mp hq]
  exact⟨by simp,fun e he=>by rw [(List.mem_replicate.mp he).2];exact hw⟩
 have rw0:Rws N (2 ^ k) [ak N w]:=⟨fun q hq=>(lenN q hq).1,fun q hq=>(lenN q hq).2⟩
 rcases(show k=0\/k=1\/k=2 by omega) with rfl | rfl | rfl
 ·refine⟨[ak N (w.getD 0 false)],iC ((aD (cD e0)).trans ((aD (ρ':=[.sh (sw 0 w), .sh (.int (m:Nat)), .sh (.lst (X.map (sw m))), .sh (.lst [gL (ak N w)]), .no, .no, .no]) rfl).trans (iB ?_))),by simp,fun v=>Iff.rfl⟩
  have:=fin [ak N w] .no .no .no rw0.each
  refine this.trans ?_
  match w,hw with
  | [b],_=>simp
 ·obtain⟨R',s5,s6,e1,l1,rw1,mem1⟩:=aH7 hN hm hX lX (.inl rfl) (R:=[ak N w]) rw0 (by simp) (.inl rfl) (.sh (sw 1 w)) (.sh (.int (m:Nat))) (.sh (.int ((0:Nat):Int))) .no .no
  refine⟨R'.map fun r=>r.map fun e=>e.headD false,iC ((aD (cD e0)).trans ((aD (ρ':=[.sh (sw 1 w), .sh (.int (m:Nat)), .sh (.lst (X.map (sw m))), .sh (.lst (R'.map gL)), .sh (.int ((0:Nat):Int)),s5,s6]) ?_).trans (iB (fin R' _ s5 s6 rw1.each)))),by rw [am];exact l1,fun v=> ?_⟩
  ·refine(eB (ds:=[.int ((0:Nat):Int)]) (.inl rfl)).trans ?_
   show(match lU [.sh (sw 1 w), .sh (.int (m:Nat)), .sh (.lst (X.map (sw m))), .sh (.lst ([ak N w].map gL)), .sh (.int ((0:Nat):Int)), .no, .no] with | .nx ρ2=>bX (fJ [4] true) lU [] ρ2 | .ct ρ2=>_ | .bk ρ2=>_ | .rt r=>_ | .ex c ρ2=>_)=_
   rw [e1];rfl
  ·rw [ao]
   show _↔v∈X.map fun x=>x.map fun b=>w.getD b.toNat false
   rw [ao]
   have key: ∀ x∈X,(l7 (ak N w) x).map (fun e=>e.headD false)=x.map fun b=>w.getD b.toNat false:=fun x hx=>by
    rw [<-hX x hx,sS,List.map_map]
    exact List.map_congr_left fun b _=>aN5 hw b
   constructor
   ·rintro⟨r,hr,rfl⟩
    obtain⟨q,hq,x,hx,rfl⟩:=(mem1 r).mp hr
    rw [List.mem_singleton.mp hq]
    exact⟨x,hx,(key x hx).symm⟩
   ·rintro⟨x,hx,rfl⟩
    exact⟨_,(mem1 _).mpr ⟨_, .head _,x,hx,rfl⟩,key x hx⟩
 ·obtain⟨R1,s5,s6,e1,l1,rw1,mem1⟩:=aH7 (c:=2) hN hm hX lX (.inr rfl) (R:=[ak N w]) rw0 (by simp) (.inr (by simp)) (.sh (sw 2 w)) (.sh (.int (m:Nat))) (.sh (.int ((0:Nat):Int))) .no .no
  obtain⟨R2,t5,t6,e2,l2,rw2,mem2⟩:=aH7 (c:=1) hN hm hX lX (.inl rfl) (R:=R1) rw1 l1 (.inl rfl) (.sh (sw 2 w)) (.sh (.int (m:Nat))) (.sh (.int ((1:Nat):Int))) s5 s6
  refine⟨R2.map fun r=>r.map fun e=>e.headD false,iC ((aD (cD e0)).trans ((aD (ρ':=[.sh (sw 2 w), .sh (.int (m:Nat)), .sh (.lst (X.map (sw m))), .sh (.lst (R2.map gL)), .sh (.int ((1:Nat):Int)),t5,t6]) ?_).trans (iB (fin R2 _ t5 t6 rw2.each)))),by rw [am];exact l2,fun v=> ?_⟩
  ·refine(eB (ds:=[.int ((0:Nat):Int), .int ((1:Nat):Int)]) (.inl rfl)).trans ?_
   show(match lU [.sh (sw 2 w), .sh (.int (m:Nat)), .sh (.lst (X.map (sw m))), .sh (.lst ([ak N w].map gL)), .sh (.int ((0:Nat):Int)), .no, .no] with | .nx ρ2=>bX (fJ [4] true) lU [.int ((1:Nat):Int)] ρ2 | .ct ρ2=>_ | .bk ρ2=>_ | .rt r=>_ | .ex c ρ2=>_)=_
   rw [e1]
   show(match lU [.sh (sw 2 w), .sh (.int (m:Nat)), .sh (.lst (X.map (sw m))), .sh (.lst (R1.map gL)), .sh (.int ((1:Nat):Int)),s5,s6] with | .nx ρ2=>bX (fJ [4] true) lU [] ρ2 | .ct ρ2=>_ | .bk ρ2=>_ | .rt r=>_ | .ex c ρ2=>_)=_
   rw [e2];rfl
  ·rw [ao]
   show _↔v∈X.flatMap fun x=>X.map fun y=>List.zipWith (fun b c=>w.getD (b.toNat+2 * c.toNat) false) x y
   rw [List.mem_flatMap]
   have key: ∀ x∈X, ∀ y∈X,(l7 (l7 (ak N w) x) y).map (fun e=>e.headD false)=List.zipWith (fun b c=>w.getD (b.toNat+2 * c.toNat) false) x y:=fun x hx y hy=>by
    rw [<-hX x hx,sS]
    exact vB hw ((hX x hx).trans (hX y hy).symm)
   constructor
   ·rintro⟨r,hr,rfl⟩
    obtain⟨q,hq,y,hy,rfl⟩:=(mem2 r).mp hr
    obtain⟨q0,hq0,x,hx,rfl⟩:=(mem1 q).mp hq
    rw [List.mem_singleton.mp hq0]
    exact⟨x,hx,ao.mpr ⟨y,hy,(key x hx y hy).symm⟩⟩
   ·rintro⟨x,hx,hv⟩
    obtain⟨y,hy,rfl⟩:=ao.mp hv
    exact⟨_,(mem2 _).mpr ⟨_,(mem1 _).mpr ⟨_, .head _,x,hx,rfl⟩,y,hy,rfl⟩,key x hx y hy⟩
end
theorem vC {m N:Nat} {L:List Vec} (h: ∀ x∈L,x.length=N):One (L.map (sw m)):=fun x hx y hy=>by
 obtain⟨x,mx,rfl⟩:=ao.mp hx
 obtain⟨y,my,rfl⟩:=ao.mp hy
 exact aH4 (by rw [h x mx,h y my])
theorem aEt {N:Nat} {L:List Vec} (h: ∀ x∈L,x.length=N):One (L.map vD):=fun x hx y hy=>by
 obtain⟨x,mx,rfl⟩:=ao.mp hx
 obtain⟨y,my,rfl⟩:=ao.mp hy
 exact aAi (by rw [h x mx,h y my])
theorem pw {m N:Nat} (hN:N=2 ^ m) (hm:m<=2):1<=N/\N<=4:=by
 rw [hN]
 rcases(show m=0\/m=1\/m=2 by omega) with rfl | rfl | rfl<;>decide
theorem aN7 {m N:Nat} (hN:N=2 ^ m) (hm:m<=2) {L:List Vec} (h: ∀ x∈L,x.length=N): ∃ X:List Vec,dSS [.lst (L.map (sw m))]= .ow (X.map (sw m))/\X.Nodup/\(∀ v,v∈X↔v∈L)/\X.map (sw m)=lM (X.map (sw m)):=by
 have ho:=vC (m:=m) h
 obtain⟨X,e,nd,mem⟩:=lS (h:=sw m) aEs ho
 have hX: ∀ x∈X,x.length=N:=fun x hx=>h x ((mem x).mp hx)
 have l16:=eT (pw hN hm).2 nd hX
 refine⟨X, ?_,nd,mem, ?_⟩
 ·rw [<-e]
  refine aAl (fun d hd=> ?_) (fun d hd=> ?_) ho ?_
  ·obtain⟨r,hr,rfl⟩:=ao.mp hd;rfl
  ·obtain⟨r,_,rfl⟩:=ao.mp hd;rw [aAk];decide
  ·have:(lM (L.map (sw m))).length=X.length:=by rw [e,am]
   rw [uP] at this;omega
 ·rw [<-e]
  exact(jG ho fun x=>oO ho x).symm
section
variable {m N:Nat} {X:List Vec} {Fs:List (Nat×List Bool)}
theorem vE (hN:N=2 ^ m) (hm:m<=2) (hX: ∀ x∈X,x.length=N) (lX:X.length<=16) (hF: ∀ f∈Fs,okF f) (lF:Fs.length<=10):
  ∃ Y:List Vec,fC [.lst (Fs.map fD), .int (m:Nat), .lst (X.map (sw m))]= .ow (Y.map (sw m))/\Y.Nodup/\(∀ v,v∈Y↔v∈X\/ ∃ f∈Fs,v∈res N f X)/\Y.map (sw m)=lM (Y.map (sw m)):=by
 obtain⟨ρ',e,s4,L,rfl,memL,lL⟩:=fH (t:=fJ [4] true) (b:=gC 3 (aB eP [aA 4,aA 1,aA 2])) (h:=fD) (L:=Fs) (ρ:=[.sh (.lst (Fs.map fD)), .sh (.int (m:Nat)), .sh (.lst (X.map (sw m))), .ow (X.map (sw m)), .no])
  (S:=fun pre ρ=> ∃ s4, ∃ L:List Vec,ρ=[.sh (.lst (Fs.map fD)), .sh (.int (m:Nat)), .sh (.lst (X.map (sw m))), .ow (L.map (sw m)),s4]/\(∀ v,v∈L↔v∈X\/ ∃ f∈pre,v∈res N f X)/\L.length<=16+63 * pre.length) (fun pre f suf eL ρ=>by
   rintro⟨s4,L,rfl,memL,lL⟩
   obtain⟨Y,ey,ly,memY⟩:=wF hN hm hX lX (hF f (by rw [eL];simp))
   have hp:pre.length<=10:=by rw [eL] at lF;simp only [bn,bo] at lF;omega
   refine⟨_,_,rfl,sR (xs:=L.map (sw m)) (ys:=Y.map (sw m)) rfl (.inr ((bN rfl rfl rfl).trans ey)) (by rw [am,am];omega), .sh (fD f),L++Y,by simp,fun v=> ?_,by simp only [bn,bo,List.length_nil];omega⟩
   rw [List.mem_append,memL,memY]
   constructor
   ·rintro((h | ⟨g,hg,h⟩) | h)
    ·exact .inl h
    ·exact .inr ⟨g,List.mem_append_left _ hg,h⟩
    ·exact .inr ⟨f,by simp,h⟩
   ·rintro(h | ⟨g,hg,h⟩)
    ·exact .inl (.inl h)
    ·rcases List.mem_append.mp hg with hg | hg
     ·exact .inl (.inr ⟨g,hg,h⟩)
     ·rw [List.mem_singleton.mp hg] at h
      exact .inr h) ⟨.no,X,rfl,fun v=>by simp,by simp;omega⟩
 have hL: ∀ v∈L,v.length=N:=fun v hv=>by
  rcases(memL v).mp hv with h | ⟨f,_,h⟩
  ·exact hX v h
  ·exact lT hX v h
 obtain⟨Y,es,nd,mem,so⟩:=aN7 hN hm hL
 refine⟨Y,iC ((aD (eS (d:=X.map (sw m)) rfl)).trans ((aD ((eB (ds:=Fs.map fD) (.inl rfl)).trans e)).trans (iB ((aO rfl).trans es)))),nd,fun v=>(mem v).trans (memL v),so⟩
noncomputable def nm:Nat->List Vec
 | 0=>[]
 | 1=>[[false,true]]
 | _=>[[false,false,true,true],[false,true,false,true]]
def Der (N m:Nat) (Fs:List (Nat×List Bool)) (X:List Vec):Prop:= ∀ T:Vec->Prop,(∀ v∈nm m,T v)->Cl N Fs T-> ∀ v∈X,T v
structure Made (N m:Nat) (Fs:List (Nat×List Bool)) (X:List Vec):Prop where
 nd:X.Nodup
 len: ∀ v∈X,v.length=N
 nam: ∀ v∈nm m,v∈X
 cl: ∀ f∈Fs, ∀ v∈res N f X,v∈X
 der:Der N m Fs X
theorem Made.closed {X:List Vec} (h:Made N m Fs X):Cl N Fs fun v=>v∈X:=fun f hf Y hY v hv=>h.cl f hf v (u8 hY v hv)
theorem Made.same {X Y:List Vec} (h:Made N m Fs X) (k:Made N m Fs Y): ∀ v,v∈X↔v∈Y:=fun v=>⟨fun hv=>h.der _ k.nam k.closed v hv,fun hv=>k.der _ h.nam h.closed v hv⟩
noncomputable def wB:FS:=(aU (b7 2 (aA 3))
  (b7 3 (aB fC [aA 0,aA 1,aA 2])))
theorem aC9 (hN:N=2 ^ m) (hm:m<=2) (hF: ∀ f∈Fs,okF f) (lF:Fs.length<=10): ∀ (n:Nat) (X Y:List Vec),17 - X.length<=n->X.Nodup->(∀ v∈X,v.length=N)->(∀ v∈nm m,v∈X)->Der N m Fs X->X.map (sw m)=lM (X.map (sw m))->Y.Nodup->(∀ v,v∈Y↔v∈X\/ ∃ f∈Fs,v∈res N f X)->Y.map (sw m)=lM (Y.map (sw m))->
  ∃ (Z:List Vec) (s3:Slot),bL (aP .Gt (aB eU [aC 3]) (aB eU [aC 2])) wB (n+1) [.sh (.lst (Fs.map fD)), .sh (.int (m:Nat)), .sh (.lst (X.map (sw m))), .sh (.lst (Y.map (sw m)))]= .nx [.sh (.lst (Fs.map fD)), .sh (.int (m:Nat)), .sh (.lst (Z.map (sw m))),s3]/\Made N m Fs Z/\Z.map (sw m)=lM (Z.map (sw m)):=by
 intro n
 induction n with
 | zero=>
  intro X Y hn nd hl
  have:=eT (pw hN hm).2 nd hl
  omega
 | succ n ih=>
  intro X Y hn ndX hX nX dX sX ndY memY sY
  have hc:aP .Gt (aB eU [aC 3]) (aB eU [aC 2]) [.sh (.lst (Fs.map fD)), .sh (.int (m:Nat)), .sh (.lst (X.map (sw m))), .sh (.lst (Y.map (sw m)))]= .ok (.bl (decide (X.length<Y.length))):=by
   refine(aZ (x:= .int (((Y.map (sw m)).length:Nat):Int)) (y:= .int (((X.map (sw m)).length:Nat):Int)) rfl rfl).trans ?_
   show R.ok (.bl (decide ((((X.map (sw m)).length:Nat):Int)<(((Y.map (sw m)).length:Nat):Int))))=_
   rw [am,am]
   congr 2
   rw [decide_eq_decide];omega
  have hY: ∀ v∈Y,v.length=N:=fun v hv=>by
   rcases(memY v).mp hv with h | ⟨f,_,h⟩
   ·exact hX v h
   ·exact lT hX v h
  have lX:=eT (pw hN hm).2 ndX hX
  have lY:=eT (pw hN hm).2 ndY hY
  by_cases hlt:X.length<Y.length
  ·obtain⟨W,eW,ndW,memW,sW⟩:=vE hN hm hY lY hF lF
   obtain⟨Z,s3,e,h1,h2⟩:=ih Y W (by omega) ndY hY (fun v hv=>(memY v).mpr (.inl (nX v hv))) (fun T h1 h2 v hv=>by
    rcases(memY v).mp hv with h | ⟨f,hf,h⟩
    ·exact dX T h1 h2 v h
    ·exact h2 f hf X (dX T h1 h2) v h) sY ndW memW sW
   refine⟨Z,s3, ?_,h1,h2⟩
   unfold bL
   rw [hc,decide_eq_true hlt]
   have hb:wB [.sh (.lst (Fs.map fD)), .sh (.int (m:Nat)), .sh (.lst (X.map (sw m))), .sh (.lst (Y.map (sw m)))]= .nx [.sh (.lst (Fs.map fD)), .sh (.int (m:Nat)), .sh (.lst (Y.map (sw m))), .sh (.lst (W.map (sw m)))]:=
    (aD (aV rfl)).trans (cD ((bN rfl rfl rfl).trans eW))
   show(match wB _ with | .nx ρ'=>bL _ wB (n+1) ρ' | .ct ρ'=>_ | .bk ρ'=>_ | .rt r=>_ | .ex k ρ'=>_)=_
   rw [hb]
   exact e
  ·refine⟨X, .sh (.lst (Y.map (sw m))), ?_,⟨ndX,hX,nX,fun f hf v hv=> ?_,dX⟩,sX⟩
   ·unfold bL
    rw [hc,decide_eq_false hlt]
   ·-- as many:the same ones
    have sub: ∀ y∈Y,y∈X:=by
     intro y hy
     refine Classical.byContradiction fun hn=> ?_
     have:=gH (l:=y::X) (L:=Y) (List.nodup_cons.mpr ⟨hn,ndX⟩) fun z hz=>by
      rcases aq.mp hz with rfl | hz
      ·exact hy
      ·exact(memY z).mpr (.inl hz)
     simp only [bo] at this
     omega
    exact sub v ((memY v).mpr (.inr ⟨f,hf,hv⟩))
end
theorem aLz {m N:Nat} (hN:N=2 ^ m) (hm:m<=2):(nm m).Nodup/\(∀ v∈nm m,v.length=N)/\(nm m).map (sw m)=lM ((nm m).map (sw m)):=by
 subst hN
 rcases(show m=0\/m=1\/m=2 by omega) with rfl | rfl | rfl
 ·exact⟨by decide,by decide,rfl⟩
 ·exact⟨by decide,by decide,by kernel_rfl⟩
 ·exact⟨by decide,by decide,by kernel_rfl⟩
theorem rD {m:Nat} (hm:m<=2) (s0 s2 s3:Slot):aB fM [aF 0 [1] (aK (aA 1)) none (aB d6 [aA 1,aA 0])] [s0, .sh (.int (m:Nat)),s2,s3]= .ow ((nm m).map (sw m)):=by
 rcases(show m=0\/m=1\/m=2 by omega) with rfl | rfl | rfl<;>kernel_rfl
theorem aL0 {f:Nat×List Bool} (h:okF f):q8 (fD f)=true/\plain (fD f)=true:=⟨aH3 ⟨by have:=h.1;omega,h.2⟩,aAh _ _⟩
theorem lV {Fs:List (Nat×List Bool)} (hF: ∀ f∈Fs,okF f):bZ [.lst (Fs.map fD)]= .ok .non:=by
 obtain⟨ρ',e,s,rfl⟩:=fH (t:=fJ [1] true) (b:=eQ (aB aI [aA 1])) (h:=fD) (L:=Fs) (ρ:=[.sh (.lst (Fs.map fD)), .no])
  (S:=fun pre ρ=> ∃ s,ρ=[.sh (.lst (Fs.map fD)),s]) (fun pre f suf eL ρ=>by
   rintro⟨s,rfl⟩
   have h:=aL0 (hF f (by rw [eL];simp))
   exact⟨_,_,rfl,iW ((aO rfl).trans (aAf h.2 h.1)), .sh (fD f),rfl⟩) ⟨.no,rfl⟩
 exact zW ((aD ((cE rfl).trans rfl)).trans ((eB (ds:=Fs.map fD) (.inl rfl)).trans e))
theorem oU {m N:Nat} {Fs:List (Nat×List Bool)} (hN:N=2 ^ m) (hm:m<=2) (hF: ∀ f∈Fs,okF f) (lF:Fs.length<=10): ∃ Z:List Vec,cP [.lst (Fs.map fD), .int (m:Nat)]= .ok (.lst (Z.map (sw m)))/\Made N m Fs Z/\Z.map (sw m)=lM (Z.map (sw m)):=by
 obtain⟨n1,n2,n3⟩:=aLz hN hm
 have l16:=eT (pw hN hm).2 n1 n2
 obtain⟨Y,eY,ndY,memY,sY⟩:=vE hN hm n2 l16 hF lF
 obtain⟨Z,s3,e,h1,h2⟩:=aC9 hN hm hF lF 999 (nm m) Y (by omega) n1 n2 (fun _ h=>h) (fun T h _=>h) n3 ndY memY sY
 refine⟨Z,aW ((aD (iW ((aO rfl).trans (lV hF)))).trans ((aD ((cE ?_).trans rfl)).trans ((aD (cD (rD hm _ _ _))).trans ((aD (cD ((bN rfl rfl rfl).trans eY))).trans ((aD e).trans (aR rfl)))))),h1,h2⟩
 refine(iD ((dZ (y:= .int 3) rfl rfl).trans (fU 3 rfl))).trans ?_
 have:wb 3 (.int (m:Nat))=true:=by simp [wb];omega
 rw [this];rfl
theorem iG {l:List Bool} {i:Nat} (h:i<l.length):dIx (vD l) (.int (i:Nat))= .ok (bD (l.getD i false)):=lO (by simp [h])
theorem aN8 {α:Type} {m:Nat} {l:List α} (d:α) (h:l.length=m):l=(List.range m).map fun i=>l.getD i d:=by
 subst h
 refine List.ext_getElem (by simp) fun i h1 h2=> ?_
 simp [List.getD,ba h1]
theorem lW: ∀ x y:List Bool,mG (x.map bD) (y.map bD)=decide (x=y)
 | [],[]=>rfl
 | [],_::_=>by simp [mG]
 | _::_,[]=>by simp [mG]
 | b::x,c::y=>by
  simp only [List.map_cons,mG,lW x y,List.cons.injEq]
  cases b<;>cases c<;>simp [bD,deq,b2i]
theorem aEu (x y:Vec):deq (vD x) (vD y)=decide (x=y):=lW x y
theorem aL1 (v:Vec):plain (vD v)=true:=nE (nF v)
theorem aDa (v:Vec) (F:List Vec):eF .NotIn (vD v) (.lst (F.map vD))= .ok (.bl (!F.contains v)):=by
 have h1:mH (vD v) (F.map vD)=true:=by
  unfold mH;rw [List.all_eq_true];intro y my
  obtain⟨x,_,rfl⟩:=ao.1 my
  exact fT (aL1 x) (aL1 v) (by rw [aAj];decide)
 have h2:((F.map vD).any fun y=>deq y (vD v))=F.contains v:=by
  rw [List.any_map,Bool.eq_iff_iff,List.any_eq_true,List.contains_iff_mem]
  constructor
  ·rintro⟨x,hx,h⟩
   have:decide (x=v)=true:=(aEu x v).symm.trans h
   exact of_decide_eq_true this▸hx
  ·intro h
   exact⟨v,h,(aEu v v).trans (by simp)⟩
 simp [eF,items,h1,h2]
theorem aH8 {i:Nat} {e:F} {ρ:Rho} {xs:List D} {d:D} (h:ρ[i]? =some (.ow xs)) (k:e ρ= .ok d) (l:xs.length<=1000):aDx i e ρ= .nx (ρ.set i (.ow (xs++[d]))):=by
 have:xs.length<LIM:=by
  have:LIM=100000:=rfl
  omega
 simp [aDx,h,k,jZ,this]
theorem aN9 {a:F} {ρ:Rho} {x:D} (h:a ρ= .ok x):cM [a] ρ= .ow [x]:=by simp [cM,o8,args,h,RA.cons,RA.then]
theorem rE {c:F} {b:FS} {n:Nat} {ρ:Rho} (h:c ρ= .ok (.bl false)):bL c b (n+1) ρ= .nx ρ:=by simp [bL,h]
theorem aAm {c:F} {b:FS} {n:Nat} {ρ ρ':Rho} (h:c ρ= .ok (.bl true)) (k:b ρ= .nx ρ'):bL c b (n+1) ρ=bL c b n ρ':=by simp [bL,h,k]
noncomputable def A0:FS:=(jP 7 (cM [aJ .Mult (eG [rIx (aC 6) (rK (.int 0))]) (aA 2)]))
noncomputable def e1F:F:=aB dY [aF 0 [0,2] (aK (aA 1)) none (rIx (aC 2) (rIx (aC 1) (aA 0)))]
noncomputable def A1:FS:=(jP 7 (aF 0 [2,6] (aC 3) none e1F))
noncomputable def e2F:F:=aB dY [aF 0 [1,0,3] (aK (aA 2)) none (rIx (aC 3) (aJ .Add (rIx (aC 1) (aA 0)) (aJ .Mult (rK (.int 2)) (rIx (aC 2) (aA 0)))))]
noncomputable def A2:FS:=(aU (jP 7 (cM []))
     (xC 8 3 (gC 7 (aF 0 [8,2,6] (aC 3) none e2F))))
theorem aOa {N:Nat} (hN:N<=4) {w:List Bool} (hw:w.length=2) {x:Vec} (hx:x.length=N):e1F [.sh (vD x), .sh (.int (N:Nat)), .sh (vD w)]= .ok (vD (x.map fun b=>w.getD b.toNat false)):=by
 have hi:aF 0 [0,2] (aK (aA 1)) none (rIx (aC 2) (rIx (aC 1) (aA 0))) [.sh (vD x), .sh (.int (N:Nat)), .sh (vD w)]= .ow ((List.range N).map fun i=>bD (w.getD (x.getD i false).toNat false)):=
  dC (L:=List.range N) (h:=fun(i:Nat)=>D.int (i:Int)) (.inl (cN rfl (by omega))) fun i hi=>by
   have h1:rIx (aC 1) (aA 0) [.sh (.int (i:Nat)), .sh (vD x), .sh (vD w)]= .ok (bD (x.getD i false)):=(dO rfl rfl).trans (iG (by rw [hx];exact zRd hi))
   refine(dO (x:=vD w) rfl h1).trans ?_
   generalize x.getD i false=b
   cases b
   ·exact iG (i:=0) (by omega)
   ·exact iG (i:=1) (by omega)
 refine(dP hi).trans ?_
 show R.ok (.tup _)=_
 unfold vD
 rw [List.map_map]
 conv=>rhs;rw [aN8 false hx]
 rw [List.map_map];rfl
theorem aOb {N:Nat} (hN:N<=4) {w:List Bool} (hw:w.length=4) {x y:Vec} (hx:x.length=N) (hy:y.length=N):e2F [.sh (vD y), .sh (vD x), .sh (.int (N:Nat)), .sh (vD w)]= .ok (vD (List.zipWith (fun b c=>w.getD (b.toNat+2 * c.toNat) false) x y)):=by
 have hi:aF 0 [1,0,3] (aK (aA 2)) none (rIx (aC 3) (aJ .Add (rIx (aC 1) (aA 0)) (aJ .Mult (rK (.int 2)) (rIx (aC 2) (aA 0))))) [.sh (vD y), .sh (vD x), .sh (.int (N:Nat)), .sh (vD w)]= .ow ((List.range N).map fun i=>bD (w.getD ((x.getD i false).toNat+2 * (y.getD i false).toNat) false)):=
  dC (L:=List.range N) (h:=fun(i:Nat)=>D.int (i:Int)) (.inl (cN rfl (by omega))) fun i hi=>by
   have hi:=zRd hi
   have h1:rIx (aC 1) (aA 0) [.sh (.int (i:Nat)), .sh (vD x), .sh (vD y), .sh (vD w)]= .ok (bD (x.getD i false)):=(dO rfl rfl).trans (iG (by rw [hx];exact hi))
   have h2:rIx (aC 2) (aA 0) [.sh (.int (i:Nat)), .sh (vD x), .sh (vD y), .sh (vD w)]= .ok (bD (y.getD i false)):=(dO rfl rfl).trans (iG (by rw [hy];exact hi))
   have h3:aJ .Add (rIx (aC 1) (aA 0)) (aJ .Mult (rK (.int 2)) (rIx (aC 2) (aA 0))) [.sh (.int (i:Nat)), .sh (vD x), .sh (vD y), .sh (vD w)]= .ok (.int (((x.getD i false).toNat+2 * (y.getD i false).toNat:Nat):Int)):=by
    refine(aN h1 ((aN rfl h2).trans (?_:_=R.ok (.int (((2 * (y.getD i false).toNat:Nat)):Int))))).trans ?_
    ·generalize y.getD i false=c;cases c<;>rfl
    ·generalize x.getD i false=b;generalize y.getD i false=c;cases b<;>cases c<;>rfl
   refine(dO (x:=vD w) rfl h3).trans (iG ?_)
   generalize x.getD i false=b;generalize y.getD i false=c
   rw [hw]
   cases b<;>cases c<;>decide
 refine(dP hi).trans ?_
 show R.ok (.tup _)=R.ok (.tup _)
 congr 2
 refine List.ext_getElem? fun i=> ?_
 rw [List.getElem?_map,List.getElem?_map,List.getElem?_zipWith]
 by_cases hi:i<N
 ·have h1:i<x.length:=by omega
  have h2:i<y.length:=by omega
  rw [List.getElem?_range hi,ba h1,ba h2]
  simp [List.getD,ba h1,ba h2]
 ·rw [List.getElem?_eq_none (l:=List.range N) (by simp;omega),List.getElem?_eq_none (l:=x) (by omega)];rfl
section
variable {m N:Nat} {F:List Vec} {f:Nat×List Bool}
noncomputable def rwB:FS:=(sIf (aP .Eq (aA 5) (rK (.int 0))) A0 (sIf (aP .Eq (aA 5) (rK (.int 1))) A1 A2))
theorem aH9 {m N:Nat} (hN:N=2 ^ m) (hm:m<=2) (b:Bool):jN .Mult (.tup [bD b]) (.int (N:Nat))= .ok (vD (ak N b)):=by
 subst hN
 rcases(show m=0\/m=1\/m=2 by omega) with rfl | rfl | rfl<;>rfl
theorem aOc (hN:N=2 ^ m) (hm:m<=2) (hF: ∀ x∈F,x.length=N) (lF:F.length<=16) (hf:okF f) (s0 s1 s4 s7 s8 s9:Slot):
  ∃ s8',rwB [s0,s1, .sh (.int (N:Nat)), .ow (F.map vD),s4, .sh (.int (f.1:Nat)), .sh (vD f.2),s7,s8,s9]= .nx [s0,s1, .sh (.int (N:Nat)), .ow (F.map vD),s4, .sh (.int (f.1:Nat)), .sh (vD f.2), .ow ((res N f F).map vD),s8',s9]:=by
 obtain⟨k,w⟩:=f
 obtain⟨hk,hw⟩:=hf
 have hk:k<=2:=hk
 have hw:w.length=2 ^ k:=hw
 have hN4:=(pw hN hm).2
 rcases(show k=0\/k=1\/k=2 by omega) with rfl | rfl | rfl
 ·refine⟨s8,(dN rfl).trans (eS (d:=[vD (ak N (w.getD 0 false))]) ?_)⟩
  have:aJ .Mult (eG [rIx (aC 6) (rK (.int 0))]) (aA 2) [s0,s1, .sh (.int (N:Nat)), .ow (F.map vD),s4, .sh (.int ((0:Nat):Int)), .sh (vD w),s7,s8,s9]= .ok (vD (ak N (w.getD 0 false))):=
   (aN (aHt ((dO (x:=vD w) rfl rfl).trans (iG (i:=0) (by rw [hw];decide)))) rfl).trans (aH9 hN hm _)
  exact aN9 this
 ·have e:aF 0 [2,6] (aC 3) none e1F [s0,s1, .sh (.int (N:Nat)), .ow (F.map vD),s4, .sh (.int ((1:Nat):Int)), .sh (vD w),s7,s8,s9]= .ow ((res N (1,w) F).map vD):=by
   show _=R.ow ((F.map fun x=>x.map fun b=>w.getD b.toNat false).map vD)
   rw [List.map_map]
   exact dC (L:=F) (h:=vD) (.inl rfl) fun x hx=>aOa hN4 hw (hF x hx)
  exact⟨s8,(cE rfl).trans ((dN rfl).trans ((eS e).trans rfl))⟩
 ·obtain⟨ρ',e,s8',rfl⟩:=fH (t:=fJ [8] true) (b:=gC 7 (aF 0 [8,2,6] (aC 3) none e2F)) (h:=vD) (L:=F) (ρ:=[s0,s1, .sh (.int (N:Nat)), .ow (F.map vD),s4, .sh (.int ((2:Nat):Int)), .sh (vD w), .ow [],s8,s9])
   (S:=fun pre ρ=> ∃ s8',ρ=[s0,s1, .sh (.int (N:Nat)), .ow (F.map vD),s4, .sh (.int ((2:Nat):Int)), .sh (vD w), .ow ((pre.flatMap fun x=>F.map fun y=>List.zipWith (fun b c=>w.getD (b.toNat+2 * c.toNat) false) x y).map vD),s8',s9]) (fun pre x suf eL ρ=>by
    rintro⟨s8',rfl⟩
    have hl: ∀ pre:List Vec,(pre.flatMap fun x=>F.map fun y=>List.zipWith (fun b c=>w.getD (b.toNat+2 * c.toNat) false) x y).length=pre.length * F.length:=by
     intro pre;induction pre with
     | nil=>simp
     | cons a r ih=>rw [List.flatMap_cons,bn,am,ih,bo,Nat.add_mul,Nat.one_mul];omega
    have hp:pre.length<=16:=by
     rw [eL] at lF;simp only [bn,bo] at lF;omega
    have hmul:pre.length * F.length<=16 * 16:=Nat.mul_le_mul hp lF
    refine⟨_,_,rfl,sR (xs:=(pre.flatMap fun x=>F.map fun y=>List.zipWith (fun b c=>w.getD (b.toNat+2 * c.toNat) false) x y).map vD) (ys:=(F.map fun y=>List.zipWith (fun b c=>w.getD (b.toNat+2 * c.toNat) false) x y).map vD) rfl (.inr ?_) (by rw [am,am,am,hl];omega), .sh (vD x), ?_⟩
    ·rw [List.map_map]
     exact dC (L:=F) (h:=vD) (.inl rfl) fun y hy=>aOb hN4 hw (hF x (by rw [eL];simp)) (hF y hy)
    ·simp) ⟨s8,rfl⟩
  exact⟨s8',(cE rfl).trans ((cE rfl).trans ((aD (ρ':=[s0,s1, .sh (.int (N:Nat)), .ow (F.map vD),s4, .sh (.int ((2:Nat):Int)), .sh (vD w), .ow [],s8,s9]) rfl).trans e))⟩
noncomputable def aMe:FS:=(sIf (aFm .NotIn (aA 9) 3) (aDx 3 (aA 9)) (bW))
theorem aL2 (hN4:N<=4) (hF: ∀ x∈F,x.length=N) (nd:F.Nodup) {L:List Vec} (hL: ∀ x∈L,x.length=N) (s0 s1 s2 s4 s5 s6 s7 s8 s9:Slot):
  ∃ (E:List Vec) (s9':Slot),bX (fJ [9] true) aMe (L.map vD) [s0,s1,s2, .ow (F.map vD),s4,s5,s6,s7,s8,s9]= .nx [s0,s1,s2, .ow ((F++E).map vD),s4,s5,s6,s7,s8,s9']/\(F++E).Nodup/\(∀ v∈E,v∈L)/\ ∀ v∈L,v∈F++E:=by
 obtain⟨ρ',e,E,s9',rfl,h1,h2,h3⟩:=fH (t:=fJ [9] true) (b:=aMe) (h:=vD) (L:=L) (ρ:=[s0,s1,s2, .ow (F.map vD),s4,s5,s6,s7,s8,s9])
  (S:=fun pre ρ=> ∃ (E:List Vec) (s9':Slot),ρ=[s0,s1,s2, .ow ((F++E).map vD),s4,s5,s6,s7,s8,s9']/\(F++E).Nodup/\(∀ v∈E,v∈pre)/\ ∀ v∈pre,v∈F++E) (fun pre v suf eL ρ=>by
   rintro⟨E,s9',rfl,h1,h2,h3⟩
   have hlen: ∀ x∈F++E,x.length=N:=fun x hx=>by
    rcases List.mem_append.mp hx with h | h
    ·exact hF x h
    ·exact hL x (by rw [eL];exact List.mem_append_left _ (h2 x h))
   have l16:=eT hN4 h1 hlen
   have hc:aFm .NotIn (aA 9) 3 [s0,s1,s2, .ow ((F++E).map vD),s4,s5,s6,s7,s8, .sh (vD v)]= .ok (.bl (!(F++E).contains v)):=aDa v (F++E)
   by_cases hv:v∈F++E
   ·refine⟨_,_,rfl,(cE (hc.trans (by rw [List.contains_iff_mem.mpr hv];rfl))).trans rfl,E, .sh (vD v),rfl,h1,fun x hx=>List.mem_append_left _ (h2 x hx),fun x hx=> ?_⟩
    rcases List.mem_append.mp hx with hx | hx
    ·exact h3 x hx
    ·rw [List.mem_singleton.mp hx];exact hv
   ·have hcf:(F++E).contains v=false:=by rw [Bool.eq_false_iff];exact fun z=>hv (List.contains_iff_mem.mp z)
    refine⟨_,_,rfl,(dN (hc.trans (by rw [hcf];rfl))).trans (aH8 (xs:=(F++E).map vD) (d:=vD v) rfl rfl (by rw [am];omega)),E++[v], .sh (vD v),by simp, ?_,fun x hx=> ?_,fun x hx=> ?_⟩
    ·rw [<-List.append_assoc,List.nodup_append]
     refine⟨h1,by simp,fun a ha b hb e=> ?_⟩
     rw [List.mem_singleton.mp hb] at e
     exact hv (e▸ha)
    ·rcases List.mem_append.mp hx with hx | hx
     ·exact List.mem_append_left _ (h2 x hx)
     ·exact bp _ hx
    ·rw [<-List.append_assoc]
     rcases List.mem_append.mp hx with hx | hx
     ·exact List.mem_append_left _ (h3 x hx)
     ·exact bp _ hx) ⟨[],s9,by simp,by simpa using nd,nofun,nofun⟩
 exact⟨E,s9',e,h1,h2,h3⟩
end
section
variable {m N:Nat} {Fs:List (Nat×List Bool)}
noncomputable def aIa:FS:=(aU rwB (aIj [7] (o9 [9] true (aA 7) aMe)))
structure St3 (N m:Nat) (Fs:List (Nat×List Bool)) (F:List Vec):Prop where
 nd:F.Nodup
 len: ∀ v∈F,v.length=N
 nam: ∀ v∈nm m,v∈F
 der:Der N m Fs F
theorem aIb (hN:N=2 ^ m) (hm:m<=2) (hF: ∀ f∈Fs,okF f) {F:List Vec} (S:St3 N m Fs F) (s1 s4 s5 s6 s7 s8 s9:Slot):
  ∃ (E:List Vec) (s5' s6' s7' s8' s9':Slot),bX (fJ [5,6] false) aIa (Fs.map fD) [.sh (.lst (Fs.map fD)),s1, .sh (.int (N:Nat)), .ow (F.map vD),s4,s5,s6,s7,s8,s9]= .nx [.sh (.lst (Fs.map fD)),s1, .sh (.int (N:Nat)), .ow ((F++E).map vD),s4,s5',s6',s7',s8',s9']/\St3 N m Fs (F++E)/\(E=[]-> ∀ f∈Fs, ∀ v∈res N f F,v∈F):=by
 have hN4:=(pw hN hm).2
 obtain⟨ρ',e,E,s5',s6',s7',s8',s9',rfl,h1,h2⟩:=fH (t:=fJ [5,6] false) (b:=aIa) (h:=fD) (L:=Fs) (ρ:=[.sh (.lst (Fs.map fD)),s1, .sh (.int (N:Nat)), .ow (F.map vD),s4,s5,s6,s7,s8,s9])
  (S:=fun pre ρ=> ∃ (E:List Vec) (s5' s6' s7' s8' s9':Slot),ρ=[.sh (.lst (Fs.map fD)),s1, .sh (.int (N:Nat)), .ow ((F++E).map vD),s4,s5',s6',s7',s8',s9']/\St3 N m Fs (F++E)/\(E=[]-> ∀ f∈pre, ∀ v∈res N f F,v∈F)) (fun pre f suf eL ρ=>by
   rintro⟨E,s5',s6',s7',s8',s9',rfl,h1,h2⟩
   have hf:f∈Fs:=by rw [eL];simp
   have l16:=eT hN4 h1.nd h1.len
   obtain⟨t8,e1⟩:=aOc hN hm h1.len l16 (hF f hf) (.sh (.lst (Fs.map fD))) s1 s4 s7' s8' s9'
   obtain⟨E2,t9,e2,n2,d2,c2⟩:=aL2 hN4 h1.len h1.nd (lT (N:=N) (f:=f) h1.len) (.sh (.lst (Fs.map fD))) s1 (.sh (.int (N:Nat))) s4 (.sh (.int (f.1:Nat))) (.sh (vD f.2)) (.sh (.lst ((res N f (F++E)).map vD))) t8 s9'
   refine⟨[.sh (.lst (Fs.map fD)),s1, .sh (.int (N:Nat)), .ow ((F++E).map vD),s4, .sh (.int (f.1:Nat)), .sh (vD f.2),s7',s8',s9'],_,rfl,(aD e1).trans ((eB (ds:=(res N f (F++E)).map vD) (.inl rfl)).trans e2),E++E2,_,_,_,_,_,by rw [List.append_assoc],⟨by rw [<-List.append_assoc];exact n2,fun v hv=> ?_,fun v hv=> ?_,fun T k1 k2 v hv=> ?_⟩,fun z g hg v hv=> ?_⟩
   ·rw [<-List.append_assoc] at hv
    rcases List.mem_append.mp hv with hv | hv
    ·exact h1.len v hv
    ·exact lT h1.len v (d2 v hv)
   ·rw [<-List.append_assoc];exact List.mem_append_left _ (h1.nam v hv)
   ·rw [<-List.append_assoc] at hv
    rcases List.mem_append.mp hv with hv | hv
    ·exact h1.der T k1 k2 v hv
    ·exact k2 f hf (F++E) (h1.der T k1 k2) v (d2 v hv)
   ·obtain⟨z1,z2⟩:=List.append_eq_nil_iff.mp z
    rcases List.mem_append.mp hg with hg | hg
    ·exact h2 z1 g hg v hv
    ·rw [List.mem_singleton.mp hg] at hv
     subst z1 z2
     simp only [List.append_nil] at c2
     exact c2 v hv) ⟨[],s5,s6,s7,s8,s9,by simp,by simpa using S,fun _ f hf=>nomatch hf⟩
 exact⟨E,s5',s6',s7',s8',s9',e,h1,h2⟩
noncomputable def aMi:FS:=(aU (b7 4 (aB eU [aC 3])) (o9 [5,6] false (aA 0) aIa))
noncomputable abbrev q10 (Fs:List (Nat×List Bool)) (m N:Nat) (a b c d e f g:Slot):Rho:=[.sh (.lst (Fs.map fD)), .sh (.int (m:Nat)), .sh (.int (N:Nat)),a,b,c,d,e,f,g]
theorem aL3 (hN:N=2 ^ m) (hm:m<=2) (hF: ∀ f∈Fs,okF f): ∀ (n:Nat) (F:List Vec) (b:Int) (s5 s6 s7 s8 s9:Slot),18 - F.length<=n->St3 N m Fs F->(b=(F.length:Nat)-> ∀ f∈Fs, ∀ v∈res N f F,v∈F)->
  ∃ (Z:List Vec) (t4 t5 t6 t7 t8 t9:Slot),bL (aP .NotEq (aA 4) (aB eU [aC 3])) aMi (n+1) (q10 Fs m N (.ow (F.map vD)) (.sh (.int b)) s5 s6 s7 s8 s9)= .nx (q10 Fs m N (.ow (Z.map vD)) t4 t5 t6 t7 t8 t9)/\Made N m Fs Z:=by
 have hN4:=(pw hN hm).2
 intro n
 induction n with
 | zero=>
  intro F b s5 s6 s7 s8 s9 hn S
  have:=eT hN4 S.nd S.len
  omega
 | succ n ih=>
  intro F b s5 s6 s7 s8 s9 hn S hb
  have hc:aP .NotEq (aA 4) (aB eU [aC 3]) (q10 Fs m N (.ow (F.map vD)) (.sh (.int b)) s5 s6 s7 s8 s9)= .ok (.bl (!decide (b=(F.length:Nat)))):=by
   refine(aZ (y:= .int (((F.map vD).length:Nat):Int)) rfl rfl).trans ?_
   rw [aAe,am]
  by_cases h:b=(F.length:Nat)
  ·refine⟨F, .sh (.int b),s5,s6,s7,s8,s9, ?_,⟨S.nd,S.len,S.nam,hb h,S.der⟩⟩
   exact rE (hc.trans (by rw [decide_eq_true h];rfl))
  ·obtain⟨E,s5',s6',s7',s8',s9',e,S',cl⟩:=aIb hN hm hF S (.sh (.int (m:Nat))) (.sh (.int ((F.length:Nat):Int))) s5 s6 s7 s8 s9
   have hbody:aMi (q10 Fs m N (.ow (F.map vD)) (.sh (.int b)) s5 s6 s7 s8 s9)= .nx (q10 Fs m N (.ow ((F++E).map vD)) (.sh (.int ((F.length:Nat):Int))) s5' s6' s7' s8' s9'):=by
    refine(aD (aV (d:= .int ((F.length:Nat):Int)) ?_)).trans ((eB (ds:=Fs.map fD) (.inl rfl)).trans e)
    refine(aO (x:= .lst (F.map vD)) rfl).trans ?_
    show R.ok (.int (((F.map vD).length:Nat):Int))=_
    rw [am]
   have step: ∀ k,bL (aP .NotEq (aA 4) (aB eU [aC 3])) aMi (k+1) (q10 Fs m N (.ow (F.map vD)) (.sh (.int b)) s5 s6 s7 s8 s9)=bL (aP .NotEq (aA 4) (aB eU [aC 3])) aMi k (q10 Fs m N (.ow ((F++E).map vD)) (.sh (.int ((F.length:Nat):Int))) s5' s6' s7' s8' s9'):=fun k=>by
    exact aAm (hc.trans (by rw [decide_eq_false h];rfl)) hbody
   by_cases hE:E=[]
   ·subst hE
    have l16:=eT hN4 S.nd S.len
    obtain⟨k,rfl⟩: ∃ k,n=k+1:=⟨n - 1,by omega⟩
    rw [step]
    simp only [List.append_nil]
    refine⟨F, .sh (.int ((F.length:Nat):Int)),s5',s6',s7',s8',s9', ?_,⟨S.nd,S.len,S.nam,cl rfl,S.der⟩⟩
    have hc2:aP .NotEq (aA 4) (aB eU [aC 3]) (q10 Fs m N (.ow (F.map vD)) (.sh (.int ((F.length:Nat):Int))) s5' s6' s7' s8' s9')= .ok (.bl false):=by
     refine(aZ (y:= .int (((F.map vD).length:Nat):Int)) rfl rfl).trans ?_
     rw [aAe,am];simp
    exact rE hc2
   ·have hlen:F.length<(F++E).length:=by
     have:0<E.length:=List.length_pos_iff.mpr hE
     rw [bn];omega
    rw [step]
    exact ih (F++E) _ s5' s6' s7' s8' s9' (by omega) S' (fun z=>by omega)
noncomputable def nm0:Nat->List Vec
 | 0=>[]
 | 1=>[[false,true]]
 | _=>[[false,true,false,true],[false,false,true,true]]
theorem aDb (hN:N=2 ^ m) (hm:m<=2) (hF: ∀ f∈Fs,okF f): ∃ Z:List Vec,eE [.lst (Fs.map fD), .int (m:Nat)]= .ow (d8 (Z.map vD))/\Made N m Fs Z:=by
 have hN4:=pw hN hm
 have h0:(nm0 m).Nodup/\(∀ v∈nm0 m,v.length=N)/\(∀ v,v∈nm0 m↔v∈nm m):=by
  subst hN
  rcases(show m=0\/m=1\/m=2 by omega) with rfl | rfl | rfl
  ·exact⟨by decide,by decide,fun v=>Iff.rfl⟩
  ·exact⟨by decide,by decide,fun v=>Iff.rfl⟩
  ·exact⟨by decide,by decide,fun v=>by simp [nm0,nm];exact Or.comm⟩
 obtain⟨Z,t4,t5,t6,t7,t8,t9,e,M⟩:=aL3 hN hm hF 999 (nm0 m) (-1) .no .no .no .no .no (by omega) ⟨h0.1,h0.2.1,fun v hv=>(h0.2.2 v).mpr hv,fun T h _ v hv=>h v ((h0.2.2 v).mp hv)⟩ (fun z=>by omega)
 have e2:rIx (cM [rK (.int 1),rK (.int 2),rK (.int 4)]) (aA 1) [.sh (.lst (Fs.map fD)), .sh (.int (m:Nat)), .no, .no, .no, .no, .no, .no, .no, .no]= .ok (.int (N:Nat)):=by
  subst hN
  rcases(show m=0\/m=1\/m=2 by omega) with rfl | rfl | rfl<;>rfl
 have e3:aF 0 [1] (aK (aA 1)) none (rIx (aB d6 [aA 1,aA 0]) (rK (.int 1))) (q10 Fs m N .no .no .no .no .no .no .no)= .ow ((nm0 m).map vD):=by
  rcases(show m=0\/m=1\/m=2 by omega) with rfl | rfl | rfl<;>kernel_rfl
 refine⟨Z,iC ((aD (aV e2)).trans ((aD (eS e3)).trans ((aD (aV (d:= .int (-1)) rfl)).trans ((aD e).trans (iB ((aO (x:= .lst (Z.map vD)) rfl).trans (sQ (fun d hd=> ?_) (fun d hd=> ?_) (aEt M.len) ?_))))))),M⟩
 ·obtain⟨v,hv,rfl⟩:=ao.mp hd
  have:=M.len v hv
  match v,this with
  | [],h=>simp at h;omega
  | a::v,_=>rfl
 ·obtain⟨v,_,rfl⟩:=ao.mp hd
  rw [aAj];decide
 ·have:=eT hN4.2 M.nd M.len
  rw [am];omega
end
mutual
noncomputable def f9:D->Nat
 | .tup xs=>cJ xs+1
 | _=>0
noncomputable def cJ:List D->Nat
 | []=>0
 | x::r=>max (f9 x) (cJ r)
end
mutual
noncomputable def cnt:D->Nat
 | .tup xs=>f8 xs+1
 | _=>1
noncomputable def f8:List D->Nat
 | []=>0
 | x::r=>cnt x+f8 r
end
theorem bR (xs ys:List D):cJ (xs++ys)=max (cJ xs) (cJ ys):=by
 induction xs with
 | nil=>simp [cJ]
 | cons x r ih=>simp [cJ,ih,Nat.max_assoc]
theorem bV (xs ys:List D):f8 (xs++ys)=f8 xs+f8 ys:=by
 induction xs with
 | nil=>simp [f8]
 | cons x r ih=>simp [f8,ih,Nat.add_assoc]
theorem cL (xs ys:List D):aH (xs++ys)=(aH xs&&aH ys):=by
 induction xs with
 | nil=>simp [aH]
 | cons x r ih=>simp [aH,ih,Bool.and_assoc]
theorem oV (d:D):1<=cnt d:=by cases d<;>simp [cnt]
theorem kG (xs:List D):xs.length<=f8 xs:=by
 induction xs with
 | nil=>simp
 | cons x r ih=>have:=oV x;simp [f8];omega
theorem vF {xs:List D} {i:Nat} {x:D} (h:xs[i]? =some x):xs=xs.take i++x::xs.drop (i+1):=by
 obtain⟨l,e⟩:=aw.1 h
 have:=List.take_append_drop i xs
 rw [List.drop_eq_getElem_cons l,e] at this
 exact this.symm
noncomputable def sub:D->List Nat->Option D
 | d,[]=>some d
 | .tup xs,i::p=>(match xs[i]? with | some x=>sub x p | none=>none)
 | _,_::_=>none
noncomputable def pth (p:List Nat):D:= .tup (p.map fun(i:Nat)=>D.int (i:Int))
theorem oW {d h:D} {i:Nat} {p:List Nat} (e:sub d (i::p)=some h): ∃ xs x,d= .tup xs/\xs[i]? =some x/\sub x p=some h:=by
 cases d with
 | tup xs=>
  cases hx:xs[i]? with
  | none=>simp [sub,hx] at e
  | some x=>exact⟨xs,x,rfl,hx,by simpa [sub,hx] using e⟩
 | _=>simp [sub] at e
theorem aEv: ∀ {p:List Nat} {d h:D},sub d p=some h->f9 h<=f9 d/\cnt h<=cnt d/\(plain d=true->plain h=true)
 | [],d,h,e=>by
  cases (Option.some.inj ((show sub d []=some d from by cases d<;>rfl).symm.trans e));exact⟨aj _,aj _,id⟩
 | i::p,d,h,e=>by
  obtain⟨xs,x,rfl,hx,e'⟩:=oW e
  obtain⟨a,b,c⟩:=aEv e'
  have s:=vF hx
  have t1:cJ xs=max (cJ (xs.take i)) (max (f9 x) (cJ (xs.drop (i+1)))):=by rw [s,bR];simp [cJ, <-s]
  have t2:f8 xs=f8 (xs.take i)+(cnt x+f8 (xs.drop (i+1))):=by rw [s,bV];simp [f8, <-s]
  refine⟨by simp only [f9];omega,by simp only [cnt];omega,fun hp=>c ?_⟩
  exact bG.1 hp x (List.mem_of_getElem? hx)
theorem rF: ∀ (n:Nat) (d:D),plain d=true->n<=100->f9 d<n->cnt d<=1000->
  ∃ ps:List (List Nat),pT cH n [d]= .ow (ps.map pth)/\ps.length=cnt d/\ ∀ p∈ps,(∃ h,sub d p=some h)/\p.length<=f9 d
 | 0,d,_,_,h,_=>absurd h (Nat.not_lt_zero _)
 | n+1,d,hpl,hn,h,hc=>by
  have sub0: ∀ d:D,sub d []=some d:=fun d=>by cases d<;>rfl
  cases d with
  | tup xs=>
   simp only [f9,cnt] at h hc
   have loop: ∀ (suf pre:List D) (ps:List (List Nat)) (s:Slot),xs=pre++suf->ps.length=1+f8 pre->(∀ p∈ps,(∃ h,sub (.tup xs) p=some h)/\p.length<=cJ xs+1)->
     ∃ (ps':List (List Nat)) (s':Slot),bX (fJ [2] true) (gC 1 (aF 0 [2] (aB (pT cH n) [rIx (aC 0) (aA 2)]) none (aJ .Add (eG [aA 1]) (aA 0)))) ((List.range' pre.length suf.length).map fun(i:Nat)=>D.int (i:Int)) [.sh (.tup xs), .ow (ps.map pth),s]
      = .nx [.sh (.tup xs), .ow (ps'.map pth),s']/\ps'.length=1+f8 xs/\ ∀ p∈ps',(∃ h,sub (.tup xs) p=some h)/\p.length<=cJ xs+1:=by
    intro suf
    induction suf with
    | nil=>
     intro pre ps s e l v
     refine⟨ps,s,rfl, ?_,v⟩
     rw [e,List.append_nil];exact l
    | cons x r ih=>
     intro pre ps s e l v
     have hx:xs[pre.length]? =some x:=by rw [e];simp
     have t1:cJ xs=max (cJ pre) (max (f9 x) (cJ r)):=by rw [e,bR];rfl
     have t2:f8 xs=f8 pre+(cnt x+f8 r):=by rw [e,bV];rfl
     obtain⟨qs,eq,lq,vq⟩:=rF n x (bG.1 hpl x (List.mem_of_getElem? hx)) (by omega) (by omega) (by omega)
     have hc1:aF 0 [2] (aB (pT cH n) [rIx (aC 0) (aA 2)]) none (aJ .Add (eG [aA 1]) (aA 0)) [.sh (.tup xs), .ow (ps.map pth), .sh (.int (pre.length:Nat))]= .ow ((qs.map (pre.length:: ·)).map pth):=by
      have:=qU (cs:=[2]) (it:=aB (pT cH n) [rIx (aC 0) (aA 2)]) (e:=aJ .Add (eG [aA 1]) (aA 0)) (ρ:=[.sh (.tup xs), .ow (ps.map pth), .sh (.int (pre.length:Nat))]) (ds:=qs.map pth)
       (g:=fun d=>match d with | .tup l=> .tup (.int (pre.length:Nat)::l) | d=>d) (.inr (.inr ((aO ((dO rfl rfl).trans (lO hx))).trans eq))) fun d m=>by
        obtain⟨q,mq,rfl⟩:=ao.1 m
        refine(aN (aHt rfl) (y:=pth q) rfl).trans ?_
        have:q.length<=f9 x:=(vq q mq).2
        have:1+q.length<=LIM:=by unfold LIM;omega
        simp [jN,pth,this]
      rw [this];simp [pth]
     have hs:gC 1 (aF 0 [2] (aB (pT cH n) [rIx (aC 0) (aA 2)]) none (aJ .Add (eG [aA 1]) (aA 0))) [.sh (.tup xs), .ow (ps.map pth), .sh (.int (pre.length:Nat))]= .nx [.sh (.tup xs), .ow ((ps++qs.map (pre.length:: ·)).map pth), .sh (.int (pre.length:Nat))]:=by
      unfold gC;rw [hc1]
      have:ps.length+qs.length<=LIM:=by unfold LIM;omega
      simp [jZ,this]
     obtain⟨ps',s',e',l',v'⟩:=ih (pre++[x]) (ps++qs.map (pre.length:: ·)) (.sh (.int (pre.length:Nat))) (by simp [e]) (by simp [l,lq,bV,f8];omega) fun p m=>by
      rcases List.mem_append.1 m with m | m
      ·exact v p m
      ·obtain⟨q,mq,rfl⟩:=ao.1 m
       obtain⟨⟨h',e1⟩,e2⟩:=vq q mq
       exact⟨⟨h',by simp [sub,hx,e1]⟩,by simp only [bo];omega⟩
     refine⟨ps',s', ?_,l',v'⟩
     rw [bo,List.range'_succ,List.map_cons]
     unfold bX
     rw [show fJ [2] true (D.int (pre.length:Nat)) [.sh (.tup xs), .ow (ps.map pth),s]=some [.sh (.tup xs), .ow (ps.map pth), .sh (.int (pre.length:Nat))] from rfl]
     simp only [hs]
     rw [<-e'];simp
   obtain⟨ps,s,e,l,v⟩:=loop xs [] [[]] .no rfl rfl fun p m=>by
    cases List.mem_singleton.1 m
    exact⟨⟨_,sub0 _⟩,by simp⟩
   refine⟨ps, ?_,by simp [cnt,l];omega,by simpa [f9] using v⟩
   refine iC ((aD (eS (d:=[pth []]) rfl)).trans ((aD (ρ':=[.sh (.tup xs), .ow (ps.map pth),s]) ((dN rfl).trans ((eB (.inl (cN (n:=xs.length) ?_ ?_))).trans ?_))).trans (iB rfl)))
   ·exact(aO rfl).trans rfl
   ·have:=kG xs;omega
   ·rw [<-e,pQ,List.range_eq_range'];rfl
  | exc c=>exact absurd hpl (by simp [plain])
  | fn c=>exact absurd hpl (by simp [plain])
  | _=>exact⟨[[]],rfl,rfl,fun p m=>by cases List.mem_singleton.1 m;exact⟨⟨_,rfl⟩,bq _⟩⟩
theorem aO3 {a b:F} {ρ:Rho} {i j:Int} (h:a ρ= .ok (.int i)) (k:b ρ= .ok (.int j)) (l:i<j):aP .Lt a b ρ= .ok (.bl true):=(aZ h k).trans (by simp [eF,l])
theorem aO4 {a b:F} {ρ:Rho} {i j:Int} (h:a ρ= .ok (.int i)) (k:b ρ= .ok (.int j)) (l: ¬ i<j):aP .Lt a b ρ= .ok (.bl false):=(aZ h k).trans (by simp [eF];omega)
theorem aL4 (xs:List D) (i:Nat):aBc (.tup xs) none (some (i:Int))= .ok (.tup (xs.take i)):=by
 have: ¬ ((i:Int)<0):=by omega
 simp [aBc,vO,nQ,this]
theorem aDc (xs:List D) (i:Nat):aBc (.tup xs) (some (i:Int)) none= .ok (.tup (xs.drop i)):=by
 have: ¬ ((i:Int)<0):=by omega
 simp [aBc,vO,nQ,this]
 rcases Nat.le_total i xs.length with h | h
 ·rw [Nat.min_eq_left h];exact List.take_of_length_le (by simp)
 ·rw [Nat.min_eq_right h,List.drop_of_length_le (aj _),List.drop_of_length_le h];simp
theorem sT {a b:F} {ρ:Rho} {xs:List D} {i:Nat} (h:a ρ= .ok (.tup xs)) (k:b ρ= .ok (.int i)):gS a none (some b) ρ= .ok (.tup (xs.take i)):=by
 simp [gS,h,k,R.bind,aDu,aL4]
theorem i3 {a b:F} {ρ:Rho} {xs:List D} {i:Nat} (h:a ρ= .ok (.tup xs)) (k:b ρ= .ok (.int i)):gS a (some b) none ρ= .ok (.tup (xs.drop i)):=by
 simp [gS,h,k,R.bind,aDu,aDc]
theorem oX {xs ys:List D} (h:xs.length+ys.length<=LIM):jN .Add (.tup xs) (.tup ys)= .ok (.tup (xs++ys)):=by simp [jN,h]
theorem aAn (p:List Nat):plain (pth p)=true:=by
 show aH (p.map _)=true
 rw [bG];intro x m;obtain⟨i,_,rfl⟩:=ao.1 m;rfl
theorem aEw: ∀ (n:Nat) (p:List Nat) (d new h:D),p.length<n->sub d p=some h->cnt d<=1000->
  ∃ d',pT eC n [d,pth p,new]= .ok d'/\(plain d=true->plain new=true->plain d'=true)/\f9 d'<=f9 d+f9 new/\cnt d'<=cnt d+cnt new
 | 0,p,d,new,h,hl,_,_=>absurd hl (Nat.not_lt_zero _)
 | n+1,[],d,new,h,_,_,_=>by
  refine⟨new, ?_,fun _ h=>h,Nat.le_add_left ..,Nat.le_add_left ..⟩
  show eC (pT eC n) [d,pth [],new]=_
  unfold eC
  exact aW (cZ ((dN rfl).trans (aR rfl)))
 | n+1,i::q,d,new,h,hl,hs,hc=>by
  obtain⟨xs,x,rfl,hx,hs'⟩:=oW hs
  have s:=vF hx
  have t1:cJ xs=max (cJ (xs.take i)) (max (f9 x) (cJ (xs.drop (i+1)))):=by rw [s,bR];simp [cJ, <-s]
  have t2:f8 xs=f8 (xs.take i)+(cnt x+f8 (xs.drop (i+1))):=by rw [s,bV];simp [f8, <-s]
  simp only [cnt] at hc
  simp only [bo] at hl
  obtain⟨x',e,a,b,c⟩:=aEw n q x new h (by omega) hs' (by omega)
  have l1:=kG (xs.take i)
  have l2:=kG (xs.drop (i+1))
  have hL:LIM=100000:=rfl
  refine⟨.tup (xs.take i++[x']++xs.drop (i+1)), ?_, ?_, ?_, ?_⟩
  ·have he:aP .Eq (aA 1) (eG []) [.sh (.tup xs), .sh (pth (i::q)), .sh new, .no]= .ok (.bl false):=
    (aZ (x:=pth (i::q)) (y:= .tup []) rfl rfl).trans ((iE (fT (aAn _) rfl (by decide))).trans rfl)
   refine aW ((aD ((cE he).trans rfl)).trans ((aD (aV ((dO (x:=pth (i::q)) (y:= .int 0) rfl rfl).trans (lO (n:=0) (x:= .int i) rfl)))).trans (aR ?_)))
   have hq:gS (aC 1) (some (rK (.int 1))) none [.sh (.tup xs), .sh (pth (i::q)), .sh new, .sh (.int i)]= .ok (pth q):=(i3 (i:=1) (xs:=(i::q).map fun(i:Nat)=>D.int (i:Int)) rfl rfl).trans rfl
   have h2:eG [aB (pT eC n) [rIx (aC 0) (aA 3),gS (aC 1) (some (rK (.int 1))) none,aA 2]] [.sh (.tup xs), .sh (pth (i::q)), .sh new, .sh (.int i)]= .ok (.tup [x']):=
    aHt ((bN ((dO rfl rfl).trans (lO hx)) hq rfl).trans e)
   refine(aN ((aN (sT (i:=i) rfl rfl) h2).trans (oX (by simp only [bo,List.length_nil];omega))) (i3 (i:=i+1) rfl rfl)).trans (oX ?_)
   simp only [bn,bo,List.length_nil];omega
  ·intro p1 p2
   have:aH (xs.take i++x::xs.drop (i+1))=true:=by rw [<-s];exact p1
   simp only [cL,aH,au] at this
   show aH _=true
   simp only [cL,aH,au,and_true]
   exact⟨⟨this.1,a this.2.1 p2⟩,this.2.2⟩
  ·simp only [f9,bR,cJ];omega
  ·simp only [cnt,bV,f8];omega
theorem aAo {r0 r1 r2 r3 r4 r7 r8:Slot}: ∀ (p:List Nat) (d h:D) (a:Slot),sub d p=some h->
  ∃ a',bX (fJ [6] true) (b7 5 (rIx (aC 5) (aA 6))) (p.map fun(i:Nat)=>D.int (i:Int)) [r0,r1,r2,r3,r4, .sh d,a,r7,r8]= .nx [r0,r1,r2,r3,r4, .sh h,a',r7,r8]
 | [],d,h,a,e=>by
  cases (Option.some.inj ((show sub d []=some d from by cases d<;>rfl).symm.trans e));exact⟨a,rfl⟩
 | i::p,d,h,a,e=>by
  obtain⟨xs,x,rfl,hx,e'⟩:=oW e
  obtain⟨a',k⟩:=aAo p x h (.sh (.int i)) e'
  refine⟨a', ?_⟩
  rw [List.map_cons];unfold bX
  rw [show fJ [6] true (D.int i) [r0,r1,r2,r3,r4, .sh (.tup xs),a,r7,r8]=some [r0,r1,r2,r3,r4, .sh (.tup xs), .sh (.int i),r7,r8] from rfl]
  have h1:b7 5 (rIx (aC 5) (aA 6)) [r0,r1,r2,r3,r4, .sh (.tup xs), .sh (.int i),r7,r8]= .nx [r0,r1,r2,r3,r4, .sh x, .sh (.int i),r7,r8]:=aV ((dO rfl rfl).trans (lO hx))
  simp only [h1]
  exact k
noncomputable def wN (h:D):List D:=[.int 0, .int 1, .int 2, .int (-1), .int 3, .bl true, .non, .str "1", .tup [], .tup [.int 0], .tup [.int 1, .int 0], .lst [.int 0, .int 1], .tup [h], .tup [h,h]]
theorem aIc {h x:D} (m:x∈wN h):(plain h=true->plain x=true)/\f9 x<=f9 h+1/\cnt x<=2 * cnt h+1:=by
 have:=oV h
 simp only [wN,aq,List.not_mem_nil,or_false] at m
 rcases m with rfl | rfl | rfl | rfl | rfl | rfl | rfl | rfl | rfl | rfl | rfl | rfl | rfl | rfl<;>
  refine⟨fun hp=>by simp [plain,aH,hp]<;>decide,by simp only [f9,cJ];omega,by simp only [cnt,f8];omega⟩
theorem aAp (ns:List Int) (at':Nat) {d:D} (hp:plain d=true) (ht:f9 d<=5) (hc:cnt d<=100):
  ∃ d',bA [Sc ns, .int at',d]= .ok d'/\plain d'=true/\f9 d'<=2 * f9 d+1/\cnt d'<=3 * cnt d+1:=by
 obtain⟨ps,e1,l1,v1⟩:=rF 12 d hp (by decide) (by omega) (by omega)
 have c1:=oV d
 obtain⟨i,e2,l2⟩:=cI ns at' (m:=ps.length) (by omega)
 have hi:(ps.map pth)[i]? =some (pth ps[i]):=by simp [l2]
 obtain⟨⟨h,e3⟩,l3⟩:=v1 ps[i] (List.getElem_mem l2)
 generalize ps[i]=p at *
 obtain⟨a,e4⟩:=aAo (r0:= .sh (Sc ns)) (r1:= .sh (.int at')) (r2:= .sh d) (r3:= .sh (.lst (ps.map pth))) (r4:= .sh (pth p)) (r7:= .no) (r8:= .no) p d h .no e3
 obtain⟨q1,q2,q3⟩:=aEv e3
 obtain⟨w,e5,l5⟩:=cI ns (at'+1) (m:=20) (by decide)
 have fin: ∀ new:D,plain new=true->f9 new<=f9 h+1->cnt new<=2 * cnt h+1-> ∃ d',dA [d,pth p,new]= .ok d'/\plain d'=true/\f9 d'<=2 * f9 d+1/\cnt d'<=3 * cnt d+1:=fun new a1 a2 a3=>by
  obtain⟨d',b1,b2,b3,b4⟩:=aEw 12 p d new h (by omega) e3 (by omega)
  exact⟨d',b1,b2 hp a1,by omega,by omega⟩
 have hd:eU [.lst (ps.map pth)]= .ok (.int ps.length):=by simp [eU,items]
 have pre: ∀ {d':D},(aU (sIf (aP .Lt (aA 8) (rK (.int 14)))
 (bT (aB dA [aA 2,aA 4,rIx (aC 7) (aA 8)]))
 (bW))
 (aU (sIf (gX (rIs (cV) (aA 5)) (aP .NotEq (aA 5) (eG [])))
 (aU (b7 6 (aB aE [aA 0,aJ .Add (aA 1) (rK (.int 2)),aB eU [aC 5]]))
  (bT (aB dA [aA 2,aA 4,rIf (aP .Lt (aA 8) (rK (.int 17))) (aJ .Add (gS (aC 5) none (some (aA 6))) (gS (aC 5) (some (aJ .Add (aA 6) (rK (.int 1)))) none)) (aJ .Add (gS (aC 5) none (some (aJ .Add (aA 6) (rK (.int 1))))) (gS (aC 5) (some (aA 6)) none))])))
 (bW))
 (bT (aB dA [aA 2,aA 4,rIf (rIs (kS) (aA 5)) (aJ .Sub (rK (.int 1)) (aA 5)) (rK (.int 7))])))) [.sh (Sc ns), .sh (.int at'), .sh d, .sh (.lst (ps.map pth)), .sh (pth p), .sh h,a, .sh (.lst (wN h)), .sh (.int w)]= .rt (.ok d')->bA [Sc ns, .int at',d]= .ok d':=fun hh=>by
  refine aW ((aD (cD ((aO rfl).trans e1))).trans ((aD (aV ((dO rfl ((bN rfl rfl ((aO rfl).trans hd)).trans e2)).trans (dI hi)))).trans ((aD (aV (d:=d) rfl)).trans ((aD ((eB (.inr (.inl rfl))).trans e4)).trans ((aD (cD (d:=wN h) rfl)).trans ((aD (aV ((bN rfl rfl rfl).trans e5))).trans hh))))))
 by_cases w1:w<14
 ·have hl:(wN h).length=14:=rfl
  have hx:(wN h)[w]? =some (wN h)[w]:=ba (by omega)
  obtain⟨n1,n2,n3⟩:=aIc (List.mem_of_getElem? hx)
  obtain⟨d',b1,b2,b3,b4⟩:=fin _ (n1 (q3 hp)) n2 n3
  exact⟨d',pre (cZ ((dN (aO3 (i:=w) (j:=14) rfl rfl (by omega))).trans (aR ((bN rfl rfl ((dO rfl rfl).trans (dI hx))).trans b1)))),b2,b3,b4⟩
 have pre2: ∀ {d':D},(aU (sIf (gX (rIs (cV) (aA 5)) (aP .NotEq (aA 5) (eG [])))
 (aU (b7 6 (aB aE [aA 0,aJ .Add (aA 1) (rK (.int 2)),aB eU [aC 5]]))
  (bT (aB dA [aA 2,aA 4,rIf (aP .Lt (aA 8) (rK (.int 17))) (aJ .Add (gS (aC 5) none (some (aA 6))) (gS (aC 5) (some (aJ .Add (aA 6) (rK (.int 1)))) none)) (aJ .Add (gS (aC 5) none (some (aJ .Add (aA 6) (rK (.int 1))))) (gS (aC 5) (some (aA 6)) none))])))
 (bW))
 (bT (aB dA [aA 2,aA 4,rIf (rIs (kS) (aA 5)) (aJ .Sub (rK (.int 1)) (aA 5)) (rK (.int 7))]))) [.sh (Sc ns), .sh (.int at'), .sh d, .sh (.lst (ps.map pth)), .sh (pth p), .sh h,a, .sh (.lst (wN h)), .sh (.int w)]= .rt (.ok d')->bA [Sc ns, .int at',d]= .ok d':=fun hh=>
  pre ((aD ((cE (aO4 (i:=w) (j:=14) rfl rfl (by omega))).trans rfl)).trans hh)
 have last: ∀ new:D,plain new=true->f9 new<=f9 h+1->cnt new<=2 * cnt h+1->rIf (rIs (kS) (aA 5)) (aJ .Sub (rK (.int 1)) (aA 5)) (rK (.int 7)) [.sh (Sc ns), .sh (.int at'), .sh d, .sh (.lst (ps.map pth)), .sh (pth p), .sh h,a, .sh (.lst (wN h)), .sh (.int w)]= .ok new->
   gX (rIs (cV) (aA 5)) (aP .NotEq (aA 5) (eG [])) [.sh (Sc ns), .sh (.int at'), .sh d, .sh (.lst (ps.map pth)), .sh (pth p), .sh h,a, .sh (.lst (wN h)), .sh (.int w)]= .ok (.bl false)->
   ∃ d',bA [Sc ns, .int at',d]= .ok d'/\plain d'=true/\f9 d'<=2 * f9 d+1/\cnt d'<=3 * cnt d+1:=fun new a1 a2 a3 hn hf=>by
  obtain⟨d',b1,b2,b3,b4⟩:=fin new a1 a2 a3
  exact⟨d',pre2 ((aD ((cE hf).trans rfl)).trans (aR ((bN rfl rfl hn).trans b1))),b2,b3,b4⟩
 have c2:=oV h
 have plh:=q3 hp
 cases h with
 | tup xs=>
  cases xs with
  | nil=>exact last (.int 7) rfl (bq _) (by simp only [cnt];omega) rfl rfl
  | cons y r=>
   obtain⟨k,e6,l6⟩:=cI ns (at'+2) (m:=(y::r).length) (by simp)
   generalize hxs:y::r=xs at *
   have hne:gX (rIs (cV) (aA 5)) (aP .NotEq (aA 5) (eG [])) [.sh (Sc ns), .sh (.int at'), .sh d, .sh (.lst (ps.map pth)), .sh (pth p), .sh (.tup xs),a, .sh (.lst (wN (.tup xs))), .sh (.int w)]= .ok (.bl true):=by
    refine(iX rfl).trans ((aZ (x:= .tup xs) (y:= .tup []) rfl rfl).trans ((oS (fT plh rfl (by decide))).trans ?_))
    subst hxs;rfl
   have hd:eU [.tup xs]= .ok (.int xs.length):=rfl
   have hL:LIM=100000:=rfl
   have ll:=kG xs
   have s1:=List.take_append_drop k xs
   have s2:=List.take_append_drop (k+1) xs
   have t1:cJ (xs.take k)<=cJ xs/\cJ (xs.drop k)<=cJ xs:=by
    have:=bR (xs.take k) (xs.drop k);rw [s1] at this;omega
   have t2:cJ (xs.take (k+1))<=cJ xs/\cJ (xs.drop (k+1))<=cJ xs:=by
    have:=bR (xs.take (k+1)) (xs.drop (k+1));rw [s2] at this;omega
   have u1:f8 (xs.take k)<=f8 xs/\f8 (xs.drop k)<=f8 xs:=by
    have:=bV (xs.take k) (xs.drop k);rw [s1] at this;omega
   have u2:f8 (xs.take (k+1))<=f8 xs/\f8 (xs.drop (k+1))<=f8 xs:=by
    have:=bV (xs.take (k+1)) (xs.drop (k+1));rw [s2] at this;omega
   have v1:aH (xs.take k)=true/\aH (xs.drop k)=true:=by
    have:=cL (xs.take k) (xs.drop k);rw [s1] at this;rw [show aH xs=true from plh] at this;simpa using this.symm
   have v2:aH (xs.take (k+1))=true/\aH (xs.drop (k+1))=true:=by
    have:=cL (xs.take (k+1)) (xs.drop (k+1));rw [s2] at this;rw [show aH xs=true from plh] at this;simpa using this.symm
   simp only [cnt,f9] at *
   have len1:(xs.take k).length+(xs.drop (k+1)).length<=LIM:=by simp only [List.length_take,List.length_drop];omega
   have aBk:(xs.take (k+1)).length+(xs.drop k).length<=LIM:=by simp only [List.length_take,List.length_drop];omega
   have go: ∃ new,rIf (aP .Lt (aA 8) (rK (.int 17))) (aJ .Add (gS (aC 5) none (some (aA 6))) (gS (aC 5) (some (aJ .Add (aA 6) (rK (.int 1)))) none)) (aJ .Add (gS (aC 5) none (some (aJ .Add (aA 6) (rK (.int 1))))) (gS (aC 5) (some (aA 6)) none)) [.sh (Sc ns), .sh (.int at'), .sh d, .sh (.lst (ps.map pth)), .sh (pth p), .sh (.tup xs), .sh (.int k), .sh (.lst (wN (.tup xs))), .sh (.int w)]= .ok new
     /\plain new=true/\f9 new<=cJ xs+1+1/\cnt new<=2 * (f8 xs+1)+1:=by
    by_cases w2:w<17
    ·refine⟨_,(wC (aO3 (i:=w) (j:=17) rfl rfl (by omega))).trans ((aN (sT (i:=k) rfl rfl) (i3 (i:=k+1) rfl rfl)).trans (oX len1)), ?_, ?_, ?_⟩
     ·show aH _=true;rw [cL,v1.1,v2.2];rfl
     ·simp only [f9,bR];omega
     ·simp only [cnt,bV];omega
    ·refine⟨_,(aCx (aO4 (i:=w) (j:=17) rfl rfl (by omega))).trans ((aN (sT (i:=k+1) rfl rfl) (i3 (i:=k) rfl rfl)).trans (oX aBk)), ?_, ?_, ?_⟩
     ·show aH _=true;rw [cL,v2.1,v1.2];rfl
     ·simp only [f9,bR];omega
     ·simp only [cnt,bV];omega
   obtain⟨new,g1,g2,g3,g4⟩:=go
   obtain⟨d',b1,b2,b3,b4⟩:=fin new g2 g3 g4
   exact⟨d',pre2 (cZ ((dN hne).trans ((aD (aV ((bN rfl rfl ((aO rfl).trans hd)).trans e6))).trans (aR ((bN rfl rfl g1).trans b1))))),b2,b3,b4⟩
 | int j=>exact last _ rfl (bq _) (by simp only [cnt];omega) ((wC rfl).trans rfl) rfl
 | bl b=>exact last _ rfl (bq _) (by simp only [cnt];omega) ((wC rfl).trans rfl) rfl
 | exc c=>exact absurd plh (by simp [plain])
 | fn c=>exact absurd plh (by simp [plain])
 | non=>exact last (.int 7) rfl (bq _) (by simp only [cnt];omega) rfl rfl
 | str x=>exact last (.int 7) rfl (bq _) (by simp only [cnt];omega) rfl rfl
 | lst x=>exact last (.int 7) rfl (bq _) (by simp only [cnt];omega) rfl rfl
theorem wG {x:D} (h:plain x=true):dQ [x]= .ok (.bl (wb 2 x)):=by
 cases x with
 | int i=>
  refine aW (aR ((iX rfl).trans ((iX rfl).trans ((qT (i:=0) (j:=i) (k:=1) rfl rfl rfl).trans ?_))))
  have:decide (i<=1)=decide (i<2):=by simp only [decide_eq_decide];omega
  simp [wb,this]
 | exc c=>exact absurd h (by simp [plain])
 | fn c=>exact absurd h (by simp [plain])
 | _=>rfl
theorem oY {d:D} (h:plain d=true):dB [d]= .ok (.bl (q8 d)):=by
 cases d with
 | tup xs=>
  have hl:aP .NotEq (aB eU [aC 0]) (rK (.int 2)) [.sh (.tup xs)]= .ok (.bl (!decide ((xs.length:Int)=2))):=(aZ rfl rfl).trans (aAe _ _)
  by_cases l2:xs.length=2
  ·obtain⟨a,b,rfl⟩: ∃ a b,xs=[a,b]:=by
    match xs,l2 with
    | [a,b],_=>exact⟨a,b,rfl⟩
   have hp:plain a=true/\plain b=true:=by simpa [plain,aH] using h
   cases a with
   | int m=>
    refine aW ((aD ((cE ((fB rfl).trans ((fB (hl.trans rfl)).trans ((fB rfl).trans rfl)))).trans rfl)).trans ?_)
    have hch:jO (gB .LtE .LtE (rK (.int 0)) (rIx (aC 0) (rK (.int 0))) (rK (.int 4))) [.sh (.tup [.int m,b])]= .ok (.bl (!wb 5 (.int m))):=by
     refine iD ((qT (i:=0) (j:=m) (k:=4) rfl rfl rfl).trans ?_)
     have:decide (m<=4)=decide (m<5):=by simp only [decide_eq_decide];omega
     simp [wb,this]
    cases hw:wb 5 (.int m) with
    | false=>exact cZ ((dN ((wA (hch.trans (by rw [hw];rfl))).trans rfl)).trans (aR (by simp [q8,hw,rK])))
    | true=>
     obtain⟨k,hk,lk⟩:=aEr hw
     cases hk
     cases b with
     | tup ws=>
      have e:aP .NotEq (aB eU [rIx (aC 0) (rK (.int 1))]) (rIx (cM [rK (.int 1),rK (.int 2),rK (.int 4),rK (.int 8),rK (.int 16)]) (rIx (aC 0) (rK (.int 0)))) [.sh (.tup [.int k, .tup ws])]= .ok (.bl (!decide ((ws.length:Int)=(2 ^ k:Nat)))):=
       (aZ rfl (ix5 (j:=k) rfl (by omega))).trans (aAe _ _)
      have hs:q8 (.tup [.int k, .tup ws])=(wb 5 (.int k)&&(decide ((ws.length:Int)=(2 ^ k:Nat))&&ws.all (wb 2))):=rfl
      by_cases hn:(ws.length:Int)=(2 ^ k:Nat)
      ·refine(aD ((cE ((fB (hch.trans (by rw [hw];rfl))).trans ((fB rfl).trans (e.trans (by rw [decide_eq_true hn];rfl))))).trans rfl)).trans (aR ?_)
       have hf:aF 0 [] (rIx (aC 0) (rK (.int 1))) (some (jO (aB dQ [aA 0]))) (aA 0) [.sh (.tup [.int k, .tup ws])]= .ow (ws.filter fun d=> !wb 2 d):=
        qV (.inr (.inl rfl)) (fun d m=>iD ((aO rfl).trans (wG (bG.1 hp.2 d m)))) fun d m=>rfl
       have:aP .Eq (aF 0 [] (rIx (aC 0) (rK (.int 1))) (some (jO (aB dQ [aA 0]))) (aA 0)) (cM []) [.sh (.tup [.int k, .tup ws])]=eF .Eq (.lst (ws.filter fun d=> !wb 2 d)) (.lst []):=by
        show R.bind _ _=_;rw [hf];rfl
       rw [this,iE (x:= .lst (ws.filter fun d=> !wb 2 d)) (y:= .lst []) (fT (bG.2 fun x m=>bG.1 hp.2 x (List.mem_filter.1 m).1) rfl (by decide))]
       have h3:deq (.lst (ws.filter fun d=> !wb 2 d)) (.lst [])=ws.all (wb 2):=by
        rw [Bool.eq_iff_iff,List.all_eq_true]
        cases hq:ws.filter fun d=> !wb 2 d with
        | nil=>simp [deq,mG];simpa using hq
        | cons y r=>
         have:y∈ws.filter fun d=> !wb 2 d:=by rw [hq];exact .head _
         rw [List.mem_filter] at this
         simp [deq,mG];exact⟨y,this.1,by simpa using this.2⟩
       rw [h3,hs,hw,decide_eq_true hn];rfl
      ·refine cZ ((dN ((fB (hch.trans (by rw [hw];rfl))).trans ((fB rfl).trans (e.trans (by rw [decide_eq_false hn];rfl))))).trans (aR ?_))
       rw [hs,hw,decide_eq_false hn];rfl
     | exc c=>exact absurd hp.2 (by simp [plain])
     | fn c=>exact absurd hp.2 (by simp [plain])
     | _=>exact cZ ((dN ((fB (hch.trans (by rw [hw];rfl))).trans ((wA rfl).trans rfl))).trans (aR (by simp [q8,aLu,rK])))
   | exc c=>exact absurd hp.1 (by simp [plain])
   | fn c=>exact absurd hp.1 (by simp [plain])
   | bl t=>exact aW (cZ ((dN ((fB rfl).trans ((fB (hl.trans rfl)).trans ((fB rfl).trans rfl)))).trans rfl))
   | _=>exact aW (cZ ((dN ((fB rfl).trans ((fB (hl.trans rfl)).trans (wA rfl)))).trans rfl))
  ·refine aW (cZ ((dN ((fB rfl).trans (wA (hl.trans ?_)))).trans (aR ?_)))
   ·have: ¬ (xs.length:Int)=2:=by omega
    simp [this]
   ·match xs,l2 with
    | [],_=>rfl
    | [_],_=>rfl
    | _::_::_::_,_=>rfl
    | [_,_],h=>exact absurd rfl h
 | exc c=>exact absurd h (by simp [plain])
 | fn c=>exact absurd h (by simp [plain])
 | _=>rfl
noncomputable def cls (k:Nat) (w:List Bool):List Bool:=[!w.getD 0 false,w.getD (2 ^ k - 1) false,(List.range (2 ^ k)).all fun i=>w.getD i false != w.getD (2 ^ k - 1 - i) false,
 (List.range (2 ^ k)).all fun i=>(List.range (2 ^ k)).all fun j=> !(Nat.beq (i &&& j) i)|| !w.getD i false||w.getD j false,Nat.blt k 2||((w.getD 0 false^^w.getD 1 false)==(w.getD 2 false^^w.getD 3 false))]
noncomputable def WL:List D:=[.str "keeps 0", .str "keeps 1", .str "turned", .str "rising", .str "sum"]
noncomputable def wd (c:Nat):D:=WL.getD c .non
noncomputable def i5 (cs:List Bool):List D:=((List.range 5).filter fun c=>cs.getD c false).map wd
theorem aDd:(kF 1).map (fun w=>cF [sw 0 w])=(kF 1).map (fun w=>R.ow (i5 (cls 0 w))):=by kernel_rfl
theorem aDe:(kF 2).map (fun w=>cF [sw 1 w])=(kF 2).map (fun w=>R.ow (i5 (cls 1 w))):=by kernel_rfl
theorem aDf:(kF 4).map (fun w=>cF [sw 2 w])=(kF 4).map (fun w=>R.ow (i5 (cls 2 w))):=by kernel_rfl
theorem nG {k:Nat} {w:List Bool} (hk:k<=2) (hw:w.length=2 ^ k):cF [sw k w]= .ow (i5 (cls k w)):=by
 rcases(show k=0\/k=1\/k=2 by omega) with rfl | rfl | rfl
 ·exact List.map_inj_left.1 aDd w (bK.2 hw)
 ·exact List.map_inj_left.1 aDe w (bK.2 hw)
 ·exact List.map_inj_left.1 aDf w (bK.2 hw)
noncomputable def eqB (r:R) (b:Bool):Bool:=match r with
 | .ok (.bl x)=>x==b
 | _=>false
theorem aAq {r:R} {b:Bool} (h:eqB r b=true):r= .ok (.bl b):=by
 unfold eqB at h;split at h
 ·rw [eq_of_beq h]
 ·cases h
theorem aL5:((kF 5).all fun cs=>(List.range 5).all fun c=>eqB (eF .In (wd c) (.lst (i5 cs))) (cs.getD c false)&&eqB (eF .NotIn (wd c) (.lst (i5 cs))) (!cs.getD c false))=true:=by kernel_rfl
theorem aId {k:Nat} {w:List Bool} {c:Nat} (hc:c<5):eF .In (wd c) (.lst (i5 (cls k w)))= .ok (.bl ((cls k w).getD c false))/\eF .NotIn (wd c) (.lst (i5 (cls k w)))= .ok (.bl (!(cls k w).getD c false)):=by
 have:=zAd (zAd aL5 (cls k w) (bK.2 rfl)) c (zPd hc)
 rw [au] at this
 exact⟨aAq this.1,aAq this.2⟩
theorem aAr {α:Type} {L:List α} {h:α->D} {q:α->List D} {cs:List Nat} {it e:F} {ρ:Rho} (hi:it ρ= .ok (.lst (L.map h))\/it ρ= .ok (.tup (L.map h))\/it ρ= .ow (L.map h)) (k: ∀ x∈L,e (.sh (h x)::iH cs ρ)= .ow (q x)):aF 0 cs it none e ρ= .ow (L.map fun x=> .lst (q x)):=by
 refine kC hi ?_
 rw [fG (p:=fun _=>true) (q:=fun x=> .lst (q x)) fun x mx=> ?_]
 ·rw [List.filter_eq_self.2 fun _ _=>rfl]
 ·simp [dD,tgt,k x mx]
theorem i6 {α:Type} {L:List α} {h q:α->D} {p:α->Bool} {cs:List Nat} {it c e:F} {ρ:Rho} (hi:it ρ= .ok (.lst (L.map h))\/it ρ= .ok (.tup (L.map h))\/it ρ= .ow (L.map h)) (kc: ∀ x∈L,c (.sh (h x)::iH cs ρ)= .ok (.bl (p x))) (k: ∀ x∈L,e (.sh (h x)::iH cs ρ)= .ok (q x)):aF 0 cs it (some c) e ρ= .ow ((L.filter p).map q):=by
 refine kC hi ?_
 rw [fG (p:=p) (q:=q) fun x mx=> ?_]
 have a:=kc x mx
 have b:=k x mx
 simp only [dD,tgt,List.cons_append,List.nil_append,a]
 cases p x
 ·rfl
 ·simp only [b];rfl
theorem aIe {α:Type} (l:List α) (p:α->Bool):aDv [.lst (l.map fun n=> .bl (p n))]= .ok (.bl (l.all p)):=by
 have e:(l.map fun d=>D.bl (p d))=(l.map p).map D.bl:=by simp
 show(match eI (l.map fun n=>D.bl (p n)) with | some xs=>R.ok (.bl (xs.all id)) | none=> .bad)=_
 rw [e,m9]
 simp
abbrev FL:=List (Nat×List Bool)
noncomputable def has (c:Nat) (f:Nat×List Bool):Bool:=(cls f.1 f.2).getD c false
noncomputable def l8 (Fs:FL):List Nat:=(List.range 5).filter fun c=>Fs.all (has c)
noncomputable def aDg (f:Nat×List Bool):D:= .lst (i5 (cls f.1 f.2))
section
variable {Fs:FL}
theorem vG (hF: ∀ f∈Fs,okF f) {i:Nat} {ρ:Rho} (h:aC i ρ= .ok (.lst (Fs.map fD))):aF 0 [] (aC i) none (aB cF [aA 0]) ρ= .ow (Fs.map aDg):=
 aAr (L:=Fs) (h:=fD) (.inl h) fun f hf=>(aO rfl).trans (nG (hF f hf).1 (hF f hf).2)
theorem jL (hF: ∀ f∈Fs,okF f):cG [.lst (Fs.map fD)]= .ow ((l8 Fs).map wd):=by
 refine iC ((aD (iW ((aO rfl).trans (lV hF)))).trans ((aD (cD (vG hF rfl))).trans (iB ?_)))
 refine i6 (L:=List.range 5) (h:=wd) (.inr (.inl rfl)) (fun c hc=> ?_) fun c _=>rfl
 have hi:aF 0 [0] (aC 1) none (aP .In (aA 1) (aA 0)) [.sh (wd c), .sh (.lst (Fs.map aDg))]= .ow (Fs.map fun f=> .bl (has c f)):=
  dC (L:=Fs) (h:=aDg) (.inl rfl) fun f _=>(aZ rfl rfl).trans (aId (zRd hc)).1
 exact(dP hi).trans (aIe _ _)
theorem oZ {α:Type} (l:List α) (h:α->D):(l.map h).isEmpty=l.isEmpty:=by cases l<;>rfl
theorem eq_nil {xs:List D} (h:plain (.lst xs)=true):eF .Eq (.lst xs) (.lst [])= .ok (.bl xs.isEmpty):=by
 rw [iE (fT h rfl (by decide))]
 cases xs<;>rfl
theorem aEx {xs:List D} (h:plain (.lst xs)=true):eF .NotEq (.lst xs) (.lst [])= .ok (.bl (!xs.isEmpty)):=by
 rw [oS (fT h rfl (by decide))]
 cases xs<;>rfl
theorem aDh {L:List Nat} (h: ∀ c∈L,c<5):plain (.lst (L.map wd))=true:=by
 show aH _=true
 rw [bG];intro x mx
 obtain⟨c,hc,rfl⟩:=ao.1 mx
 have hc:=h c hc
 rcases(show c=0\/c=1\/c=2\/c=3\/c=4 by omega) with rfl | rfl | rfl | rfl | rfl<;>kernel_rfl
theorem aEy {L:List Nat} (h: ∀ c∈L,c<5):dep (.lst (L.map wd))<=60:=by
 show jM _+1<=60
 rw [iY fun x mx=>by
  obtain⟨c,hc,rfl⟩:=ao.1 mx
  have hc:=h c hc
  rcases(show c=0\/c=1\/c=2\/c=3\/c=4 by omega) with rfl | rfl | rfl | rfl | rfl<;>rfl]
 decide
theorem nH: ∀ c∈l8 Fs,c<5:=fun c hc=>zRd (List.mem_filter.mp hc).1
theorem aIf (L:FL):plain (.lst (L.map aDg))=true:=by
 show aH _=true
 rw [bG];intro x mx
 obtain⟨f,_,rfl⟩:=ao.1 mx
 exact aDh fun c hc=>zRd (List.mem_filter.mp hc).1
theorem aAs (hF: ∀ f∈Fs,okF f):cQ [.lst (Fs.map fD)]= .ok (.bl (l8 Fs).isEmpty):=by
 refine aW (aR ((gP ((aO rfl).trans (jL hF)) (y:=[]) rfl).trans ((eq_nil (aDh nH)).trans ?_)))
 rw [oZ]
noncomputable def aL6:FL:=(kF 1).map (fun w=>(0,w))++((kF 2).map (fun w=>(1,w))++(kF 4).map fun w=>(2,w))
theorem vH {f:Nat×List Bool} (h:okF f):f∈aL6:=by
 obtain⟨k,w⟩:=f
 obtain⟨hk,hw⟩:=h
 have hk:k<=2:=hk
 have hw:w.length=2 ^ k:=hw
 unfold aL6
 rcases(show k=0\/k=1\/k=2 by omega) with rfl | rfl | rfl
 ·exact List.mem_append_left _ (ao.mpr ⟨w,bK.2 hw,rfl⟩)
 ·exact bp _ (List.mem_append_left _ (ao.mpr ⟨w,bK.2 hw,rfl⟩))
 ·exact bp _ (bp _ (ao.mpr ⟨w,bK.2 hw,rfl⟩))
noncomputable def inC (m c:Nat):List Vec:=(kF (2 ^ m)).filter fun v=>(cls m v).getD c false
noncomputable def aMj (m:Nat):Bool:=aL6.all fun f=>(List.range 5).all fun c=> !has c f||(res (2 ^ m) f (inC m c)).all fun v=>(cls m v).getD c false
theorem aOd:aMj 0=true:=by kernel_rfl
theorem aOe:aMj 1=true:=by kernel_rfl
theorem aOf:aMj 2=true:=by kernel_rfl
theorem aP0:((List.range 3).all fun m=>(nm m).all fun v=>(List.range 5).all fun c=>(cls m v).getD c false)=true:=by kernel_rfl
theorem l4 {m N:Nat} (hN:N=2 ^ m) (hm:m<=2) (hF: ∀ f∈Fs,okF f) {c:Nat} (hc:c∈l8 Fs) {Z:List Vec} (M:Made N m Fs Z): ∀ v∈Z,(cls m v).getD c false=true:=by
 have h5:=nH c hc
 have hall:=(List.mem_filter.mp hc).2
 rw [List.all_eq_true] at hall
 have tab:aMj m=true:=by
  rcases(show m=0\/m=1\/m=2 by omega) with rfl | rfl | rfl
  ·exact aOd
  ·exact aOe
  ·exact aOf
 have key:=M.der (fun v=>v∈inC m c) (fun v hv=>by
  refine List.mem_filter.mpr ⟨bK.2 (hN▸M.len v (M.nam v hv)), ?_⟩
  exact zAd (zAd (zAd aP0 m (zPd (by omega))) v hv) c (zPd h5)) (fun f hf X hX v hv=>by
  have h1:=zAd (zAd tab f (vH (hF f hf))) c (zPd h5)
  rw [hall f hf] at h1
  have h2:(res (2 ^ m) f (inC m c)).all (fun v=>(cls m v).getD c false)=true:=h1
  have hv':v∈res (2 ^ m) f (inC m c):=u8 hX v (hN▸hv)
  refine List.mem_filter.mpr ⟨bK.2 (lT (fun x hx=>bK.1 (List.mem_filter.mp hx).1) v hv'), ?_⟩
  exact zAd h2 v hv')
 exact fun v hv=>(List.mem_filter.mp (key v hv)).2
theorem aL7:((List.range 5).all fun c=>(kF 4).any fun v=> !(cls 2 v).getD c false)=true:=by kernel_rfl
theorem aOg (hF: ∀ f∈Fs,okF f) (h:l8 Fs≠[]) {Z:List Vec} (M:Made 4 2 Fs Z):Z.length≠16:=by
 obtain⟨c,hc⟩:=List.exists_mem_of_ne_nil _ h
 obtain⟨v,hv,hn⟩:=List.any_eq_true.mp (zAd aL7 c (zPd (nH c hc)))
 have hZ:v∉Z:=fun z=>by
  have:=l4 (N:=4) rfl (by decide) hF hc M v z
  rw [this] at hn;cases hn
 have:=gH (l:=v::Z) (L:=kF 4) (List.nodup_cons.mpr ⟨hZ,M.nd⟩) fun x hx=>by
  rcases aq.mp hx with rfl | hx
  ·exact hv
  ·exact bK.2 (M.len x hx)
 rw [i0] at this
 simp only [bo] at this
 omega
noncomputable def ccs:List (Nat×List Nat):=[(17,[3264,7375,7339,7171,6861,6661,7255,7086,6916,7426,6950,5896,7681,5913]),
  (19,[3264,7375,7341,7390,6859,4291,4261,4306,4321,4276,5031,4216,4790,4201]),
  (40,[3279,7360,7330,7411,6852,6901,7249,4776,4861,5371,4793,4606,6391,4470]),
  (42,[3279,7360,7332,7240,6850,8131,8101,8011,8071,7981,5025,7966,6953,8086]),
  (81,[3264,7375,7339,7171,6861,6661,7255,7086,6916,7426,6950,5896,7681,5913]),
  (83,[3264,7375,7341,7390,6859,4291,4261,4306,4321,4276,5031,4216,4790,4201]),
  (135,[3267,2757,7336,2247,7216,207,7252,1227,6706,717,4945,462,6118,1737]),
  (136,[3267,2757,7360,207,7330,717,7249,462,6852,1227,5032,2247,4793,2502]),
  (138,[3267,2757,7360,207,7332,1227,7256,2247,6850,717,5025,462,6953,2502]),
  (141,[3267,2757,7342,3777,7231,4032,7261,3522,6715,3012,4951,1992,4489,2502]),
  (145,[3267,2757,7375,4032,7339,3012,7255,1992,6861,3522,5038,3777,6950,1737]),
  (147,[3267,2757,7375,4032,7341,3522,7262,3777,6859,3012,5031,1992,4790,1737]),
  (168,[3279,7360,7330,7411,6852,6901,7249,4776,4861,5371,4793,4606,6391,4470]),
  (170,[3279,7360,7332,7240,6850,8131,8101,8011,8071,7981,5025,7966,6953,8086]),
  (209,[3264,7375,7339,7171,6861,6661,7255,7086,6916,7426,6950,5896,7681,5913]),
  (211,[3264,7375,7341,7390,6859,4291,4261,4306,4321,4276,5031,4216,4790,4201]),
  (240,[3240,7363,3120,2610,6853,3156,849,6343,4303,4813,5323,3513,4558,2022]),
  (242,[3240,7363,3120,2610,7333,3156,849,7303,7183,7213,7243,3513,7198,2022]),
  (271,[3264,3234,2756,680,7375,3315,2805,3153,765,1275,697,2295,510,2278]),
  (272,[3264,3234,2756,680,7363,2609,6853,4303,765,1275,697,2295,510,2278]),
  (273,[3264,3234,2756,680,7375,3315,2805,3153,765,1275,697,2295,510,2278]),
  (274,[3264,3234,2756,680,7363,2609,7333,7183,765,1275,697,2295,510,2278]),
  (275,[3264,3234,2756,680,7375,3315,2805,3153,765,1275,697,2295,510,2278]),
  (277,[3264,3234,2756,680,7375,3315,2805,3153,765,1275,697,2295,510,2278]),
  (335,[3264,3236,3144,2754,7375,4035,4005,3915,3975,3885,929,3870,2857,3990]),
  (336,[3264,3236,3144,2754,7363,929,6853,4303,3915,3975,3885,3870,2857,3990]),
  (337,[3264,3236,3144,2754,7375,4035,4005,3915,3975,3885,929,3870,2857,3990]),
  (338,[3264,3236,3144,2754,7363,929,7333,7183,3915,3975,3885,3870,2857,3990]),
  (339,[3264,3236,3144,2754,7375,4035,4005,3915,3975,3885,929,3870,2857,3990]),
  (341,[3264,3236,3144,2754,7375,4035,4005,3915,3975,3885,929,3870,2857,3990]),
  (401,[3264,3238,7375,3315,2805,3161,7339,3255,2737,3101,4020,3144,2638,3298]),
  (403,[3264,3238,7375,3315,2805,3161,7341,3281,2775,3195,4050,3118,2600,3204]),
  (432,[3246,7363,3135,2619,6853,3165,855,7873,8128,7108,7618,1062,6088,393]),
  (434,[3246,7363,3135,2619,7333,3165,855,7393,7408,7348,7378,1062,7288,393]),
  (462,[3267,3233,3120,3090,2725,2612,856,286,390,15,45,75,135,105]),
  (529,[3267,2757,7375,4032,7339,3012,7255,1992,6861,3522,5038,3777,6950,1737]),
  (531,[3267,2757,7375,4032,7341,3522,7262,3777,6859,3012,5031,1992,4790,1737]),
  (562,[3279,3243,2765,2990,7363,2615,7333,7408,2820,3330,2854,3585,1800,3721]),
  (595,[3267,3237,7375,3312,7341,3282,7262,3297,6859,3252,5031,3192,4790,3177]),
  (660,[3267,3239,3135,3195,2725,2621,862,1912,2025,4080,4020,4050,4065,3990])]
noncomputable def vec (n:Nat):Vec:=[n.testBit 0,n.testBit 1,n.testBit 2,n.testBit 3]
noncomputable def veq (x y:Vec):Bool:=x==y
noncomputable def aEz (f g:Nat×List Bool) (D:List Nat) (s:Nat):Bool:=D.contains (s / 256 % 16)&&(D.contains (s / 16 % 16)&&(res 4 (if s / 4096==0 then f else g) [vec (s / 256 % 16),vec (s / 16 % 16)]).contains (vec (s % 16)))
noncomputable def run (f g:Nat×List Bool):List Nat->List Nat->Option (List Nat)
 | [],D=>some D
 | s::r,D=>if aEz f g D s then run f g r (s % 16::D) else none
noncomputable def done (o:Option (List Nat)):Bool:=match o with
 | some D=>(List.range 16).all fun n=>D.contains n
 | none=>false
theorem aE0 {f g:Nat×List Bool} {T:Vec->Prop} (cf:Cl 4 [f] T) (cg:Cl 4 [g] T): ∀ (ss D:List Nat) {D':List Nat},run f g ss D=some D'->(∀ n∈D,T (vec n))-> ∀ n∈D',T (vec n)
 | [],D,D',h,hD=>by cases h;exact hD
 | s::r,D,D',h,hD=>by
  unfold run at h
  split at h
  ·rename_i hs
   unfold aEz at hs
   rw [au,au,List.contains_iff_mem,List.contains_iff_mem,List.contains_iff_mem] at hs
   refine aE0 cf cg r _ h fun n hn=> ?_
   rcases aq.mp hn with rfl | hn
   ·have hX: ∀ x∈[vec (s / 256 % 16),vec (s / 16 % 16)],T x:=fun x hx=>by
     rcases aq.mp hx with rfl | hx
     ·exact hD _ hs.1
     ·rw [List.mem_singleton.mp hx];exact hD _ hs.2.1
    have h3:=hs.2.2
    split at h3
    ·exact cf f (.head _) _ hX _ h3
    ·exact cg g (.head _) _ hX _ h3
   ·exact hD n hn
  ·cases h
noncomputable def idx (f:Nat×List Bool):Nat:=aL6.findIdx fun g=>Nat.beq g.1 f.1&&veq g.2 f.2
noncomputable def cOf (i j:Nat):List Nat:=(ccs.lookup (i * 32+j)).getD []
noncomputable def fOf (i:Nat):Nat×List Bool:=aL6.getD i (0,[])
noncomputable def pOk (i j:Nat):Bool:=done (run (fOf i) (fOf j) (cOf i j) [12,10])||(done (run (fOf j) (fOf i) (cOf j i) [12,10])||(done (run (fOf i) (fOf i) (cOf i i) [12,10])||done (run (fOf j) (fOf j) (cOf j j) [12,10])))
theorem aDi:((List.range 22).all fun i=>(List.range 22).all fun j=> !(l8 [fOf i,fOf j]).isEmpty||pOk i j)=true:=by kernel_rfl
theorem aIg:((kF 4).all fun v=>(List.range 16).any fun n=>veq (vec n) v)=true:=by kernel_rfl
theorem aE1 {f:Nat×List Bool} (h:okF f): ∃ i,i<22/\fOf i=f:=by
 obtain⟨i,hi,e⟩:=List.getElem_of_mem (vH h)
 exact⟨i,hi,by unfold fOf;rw [<-e];simp [List.getD,ba hi]⟩
theorem o0 {f g:Nat×List Bool} {T:Vec->Prop} (cf:Cl 4 [f] T) (cg:Cl 4 [g] T) (hn: ∀ v∈nm 2,T v) {ss:List Nat} (h:done (run f g ss [12,10])=true): ∀ n<16,T (vec n):=by
 unfold done at h
 split at h
 ·rename_i D e
  intro n hn'
  have hm:=List.contains_iff_mem.mp (zAd h n (zPd hn'))
  refine aE0 cf cg ss _ e (fun k hk=> ?_) n hm
  rcases aq.mp hk with rfl | hk
  ·exact hn _ (by decide)
  ·rw [List.mem_singleton.mp hk];exact hn _ (by decide)
 ·cases h
theorem aL8 {f g:Nat×List Bool} (hf:okF f) (hg:okF g) (h:l8 [f,g]=[]) {T:Vec->Prop} (cf:Cl 4 [f] T) (cg:Cl 4 [g] T) (hn: ∀ v∈nm 2,T v): ∀ v∈kF 4,T v:=by
 obtain⟨i,hi,rfl⟩:=aE1 hf
 obtain⟨j,hj,rfl⟩:=aE1 hg
 have t:=zAd (zAd aDi i (zPd hi)) j (zPd hj)
 rw [h] at t
 have t:pOk i j=true:=t
 have key: ∀ n<16,T (vec n):=by
  unfold pOk at t
  rw [Bool.or_eq_true,Bool.or_eq_true,Bool.or_eq_true] at t
  rcases t with t | t | t | t
  ·exact o0 cf cg hn t
  ·exact o0 cg cf hn t
  ·exact o0 cf cf hn t
  ·exact o0 cg cg hn t
 intro v hv
 obtain⟨n,hn',e⟩:=List.any_eq_true.mp (zAd aIg v hv)
 have e:vec n=v:=eq_of_beq e
 exact e▸key n (zRd hn')
theorem post (hF: ∀ f∈Fs,okF f) (hl:Fs.length=1\/Fs.length=2) {Z:List Vec} (M:Made 4 2 Fs Z):decide (Z.length=16)=(l8 Fs).isEmpty:=by
 by_cases h:l8 Fs=[]
 ·rw [h]
  refine decide_eq_true ?_
  have cl1: ∀ f∈Fs,Cl 4 [f] fun v=>v∈Z:=fun f hf g hg X hX v hv=>by
   rw [List.mem_singleton.mp hg] at hv
   exact M.closed f hf X hX v hv
  have sub: ∀ v∈kF 4,v∈Z:=by
   match Fs,hl,hF,h,cl1,M with
   | [f],_,hF,h,cl1,M=>
    have h2:l8 [f,f]=[]:=by
     rw [<-h]
     refine List.filter_congr fun c _=> ?_
     simp
    exact aL8 (hF f (.head _)) (hF f (.head _)) h2 (cl1 f (.head _)) (cl1 f (.head _)) M.nam
   | [f,g],_,hF,h,cl1,M=>exact aL8 (hF f (.head _)) (hF g (.tail _ (.head _))) h (cl1 f (.head _)) (cl1 g (.tail _ (.head _))) M.nam
  have nd:(kF 4).Nodup:=by decide+kernel
  have h1:=gH nd sub
  have h2:=gH M.nd fun x hx=>bK.2 (M.len x hx)
  rw [i0] at h1 h2
  omega
 ·rw [decide_eq_false (aOg hF h M)]
  cases e:l8 Fs with
  | nil=>exact absurd e h
  | cons _ _=>rfl
end
theorem nI {what:Nat} {d e x:D} {r:R} (hr:(what=0/\cP [d,e]=r)\/(what=1/\cG [d]=r)\/(what=2/\cQ [d]=r)) (hx:r= .ok x\/ ∃ xs,r= .ow xs/\x= .lst xs):aT [.int (what:Nat),d,e]= .ok x:=by
 have hb:(sIf (aP .Eq (aA 0) (rK (.int 0)))
  (b7 4 (aB cP [aA 1,aA 2]))
  (b7 4 (rIf (aP .Eq (aA 0) (rK (.int 1))) (aB cG [aA 1]) (aB cQ [aA 1])))) [.sh (.int (what:Nat)), .sh d, .sh e, .sh .non, .sh .non, .no]= .nx [.sh (.int (what:Nat)), .sh d, .sh e, .sh .non, .sh x, .no]:=by
  rcases hr with ⟨rfl,h⟩ | ⟨rfl,h⟩ | ⟨rfl,h⟩
  ·refine(dN rfl).trans ?_
   rcases hx with rfl | ⟨xs,rfl,rfl⟩
   ·exact aV ((dZ rfl rfl).trans h)
   ·exact cD ((dZ rfl rfl).trans h)
  ·refine(cE rfl).trans ?_
   rcases hx with rfl | ⟨xs,rfl,rfl⟩
   ·exact aV ((wC rfl).trans ((aO rfl).trans h))
   ·exact cD ((wC rfl).trans ((aO rfl).trans h))
  ·refine(cE rfl).trans ?_
   rcases hx with rfl | ⟨xs,rfl,rfl⟩
   ·exact aV ((aCx rfl).trans ((aO rfl).trans h))
   ·exact cD ((aCx rfl).trans ((aO rfl).trans h))
 refine aW ((aD (aV rfl)).trans ((aD (aV rfl)).trans ((aD (ρ':=[.sh (.int (what:Nat)), .sh d, .sh e, .sh .non, .sh x, .no]) ?_).trans (cZ ((dN rfl).trans (aR rfl))))))
 show aDy 5 3 _ _ [.sh (.int (what:Nat)), .sh d, .sh e, .sh .non, .sh .non, .no]=_
 unfold aDy
 rw [hb]
theorem o6:fE [.exc 1]= .ok (.str "no switch")/\fE [.exc 2]= .ok (.str "no name"):=⟨by kernel_rfl,by kernel_rfl⟩
theorem aDj {what:Nat} {d e x:D} {c:Nat} (hr:(what=0/\cP [d,e]= .ex c)\/(what=1/\cG [d]= .ex c)\/(what=2/\cQ [d]= .ex c)) (hw:fE [.exc c]= .ok x):aT [.int (what:Nat),d,e]= .ok x:=by
 have hb:(sIf (aP .Eq (aA 0) (rK (.int 0)))
  (b7 4 (aB cP [aA 1,aA 2]))
  (b7 4 (rIf (aP .Eq (aA 0) (rK (.int 1))) (aB cG [aA 1]) (aB cQ [aA 1])))) [.sh (.int (what:Nat)), .sh d, .sh e, .sh .non, .sh .non, .no]= .ex c [.sh (.int (what:Nat)), .sh d, .sh e, .sh .non, .sh .non, .no]:=by
  rcases hr with ⟨rfl,h⟩ | ⟨rfl,h⟩ | ⟨rfl,h⟩
  ·exact(dN rfl).trans (sO ((dZ rfl rfl).trans h))
  ·exact(cE rfl).trans (sO ((wC rfl).trans ((aO rfl).trans h)))
  ·exact(cE rfl).trans (sO ((aCx rfl).trans ((aO rfl).trans h)))
 refine aW ((aD (aV rfl)).trans ((aD (aV rfl)).trans ((aD (ρ':=[.sh (.int (what:Nat)), .sh d, .sh e, .sh (.exc c), .sh .non, .no]) ?_).trans ((aD ((cE rfl).trans rfl)).trans (aR ((aO rfl).trans hw))))))
 show aDy 5 3 _ _ [.sh (.int (what:Nat)), .sh d, .sh e, .sh .non, .sh .non, .no]=_
 unfold aDy
 rw [hb];rfl
theorem aAt {f:Fn} {a b:F} {ρ ρ':Rho} (h:a ρ=b ρ'):aB f [a] ρ=aB f [b] ρ':=by simp only [aB,o8,args,h]
theorem aDk (xs:List D):vO xs none (some (-1))=xs.dropLast:=by
 have h:nQ xs.length xs.length (some (-1))=xs.length - 1:=by
  show(if(-1:Int)<0 then((-1:Int)+(xs.length:Nat)).toNat else min (-1:Int).toNat xs.length)=_
  rw [if_pos (by decide)];omega
 rw [List.dropLast_eq_take]
 show(xs.drop 0).take (nQ xs.length xs.length (some (-1)) - 0)=_
 rw [h];rfl
theorem aDl {Fs:FL} {c:Nat}:(Fs.filter fun f=> !has c f).isEmpty=Fs.all (has c):=by
 rw [Bool.eq_iff_iff,List.isEmpty_iff,List.filter_eq_nil_iff,List.all_eq_true]
 simp
theorem sU {a b:FS} {ρ ρ':Rho} {c:Nat} (h:a ρ= .ex c ρ'):aU a b ρ= .ex c ρ':=by simp only [aU,h]
section
variable {Fs:FL} {m N:Nat}
theorem aAu (hF: ∀ f∈Fs,okF f) {bad:D} (hp:plain bad=true) (hb:q8 bad=false):bZ [.lst (Fs.map fD++[bad])]= .ex 1:=by
 have go: ∀ (L:FL) (l:List D) (s:Slot),(∀ f∈L,okF f)-> ∃ ρ',bX (fJ [1] true) (eQ (aB aI [aA 1])) (L.map fD++[bad]) [.sh (.lst l),s]= .ex 1 ρ':=by
  intro L
  induction L with
  | nil=>
   intro l s _
   have h:eQ (aB aI [aA 1]) [.sh (.lst l), .sh bad]= .ex 1 [.sh (.lst l), .sh bad]:=oQ ((aO rfl).trans (aH0 hp hb))
   refine⟨[.sh (.lst l), .sh bad], ?_⟩
   show(match eQ (aB aI [aA 1]) [.sh (.lst l), .sh bad] with | .nx ρ2=>_ | .ct ρ2=>_ | .bk ρ2=>_ | .rt r=>_ | .ex c ρ2=>Out.ex c ρ2)=_
   rw [h]
  | cons f L ih=>
   intro l s hL
   have q:=aL0 (hL f (.head _))
   have h:eQ (aB aI [aA 1]) [.sh (.lst l), .sh (fD f)]= .nx [.sh (.lst l), .sh (fD f)]:=iW ((aO rfl).trans (aAf q.2 q.1))
   obtain⟨ρ',e⟩:=ih l (.sh (fD f)) fun g hg=>hL g (.tail _ hg)
   refine⟨ρ', ?_⟩
   show(match eQ (aB aI [aA 1]) [.sh (.lst l), .sh (fD f)] with | .nx ρ2=>bX (fJ [1] true) (eQ (aB aI [aA 1])) (L.map fD++[bad]) ρ2 | .ct ρ2=>_ | .bk ρ2=>_ | .rt r=>_ | .ex c ρ2=>_)=_
   rw [h];exact e
 obtain⟨ρ',e⟩:=go Fs (Fs.map fD++[bad]) .no hF
 exact jI ((aD ((cE rfl).trans rfl)).trans ((eB (ds:=Fs.map fD++[bad]) (.inl rfl)).trans e))
theorem aL9 (hF: ∀ f∈Fs,okF f) {bad:D} (hp:plain bad=true) (hb:q8 bad=false) {k:Nat} (hk:k<3):aT [.int (k:Nat), .lst (Fs.map fD++[bad]), .int 9]= .ok (.str "no switch"):=by
 have c:=aAu hF hp hb
 have hmis:cG [.lst (Fs.map fD++[bad])]= .ex 1:=jI (sU (oQ ((aO rfl).trans c)))
 rcases(show k=0\/k=1\/k=2 by omega) with rfl | rfl | rfl
 ·exact aDj (.inl ⟨rfl,jI (sU (oQ ((aO rfl).trans c)))⟩) o6.1
 ·exact aDj (.inr (.inl ⟨rfl,hmis⟩)) o6.1
 ·refine aDj (.inr (.inr ⟨rfl, ?_⟩)) o6.1
  have:aP .Eq (aB cG [aA 0]) (cM []) [.sh (.lst (Fs.map fD++[bad]))]= .ex 1:=by
   unfold aP
   rw [(aO rfl).trans hmis];rfl
  show fnOf 1 (bT _) _=_
  have h2:bT (aP .Eq (aB cG [aA 0]) (cM [])) [.sh (.lst (Fs.map fD++[bad]))]= .ex 1 [.sh (.lst (Fs.map fD++[bad]))]:=by unfold bT;rw [this]
  exact jI h2
theorem aIh (hF: ∀ f∈Fs,okF f) {i:Int} (h:wb 3 (.int i)=false):aT [.int ((0:Nat):Int), .lst (Fs.map fD), .int i]= .ok (.str "no name"):=by
 refine aDj (.inl ⟨rfl,jI ((aD (iW ((aO rfl).trans (lV hF)))).trans (sU ((dN ?_).trans rfl)))⟩) o6.2
 refine(iD ((dZ (y:= .int 3) rfl rfl).trans (fU 3 rfl))).trans ?_
 rw [h];rfl
theorem aE2 (x y:Vec):deq (sw m x) (sw m y)=decide (x=y):=by
 show(decide ((m:Int)=(m:Int))&&(mG (x.map bD) (y.map bD)&&true))=_
 rw [lW];simp
theorem nJ (Z:List Vec):plain (.lst (Z.map (sw m)))=true/\dep (.lst (Z.map (sw m)))<=60:=by
 refine⟨?_, ?_⟩
 ·show aH _=true
  rw [bG];intro x mx;obtain⟨v,_,rfl⟩:=ao.1 mx;exact aAh _ _
 ·have: ∀ Z:List Vec,jM (Z.map (sw m))<=2:=by
   intro Z;induction Z with
   | nil=>exact bq _
   | cons x r ih=>show max (dep (sw m x)) (jM (r.map (sw m)))<=2;rw [aAk];omega
  show jM _+1<=60
  have:=this Z;omega
theorem aDm (v:Vec) (Z:List Vec):eF .NotIn (sw m v) (.lst (Z.map (sw m)))= .ok (.bl (!Z.contains v)):=by
 have h1:mH (sw m v) (Z.map (sw m))=true:=by
  unfold mH;rw [List.all_eq_true];intro y my
  obtain⟨x,_,rfl⟩:=ao.1 my
  exact fT (aAh _ _) (aAh _ _) (aLw _ _)
 have h2:((Z.map (sw m)).any fun y=>deq y (sw m v))=Z.contains v:=by
  rw [List.any_map,Bool.eq_iff_iff,List.any_eq_true,List.contains_iff_mem]
  constructor
  ·rintro⟨x,hx,h⟩
   have:decide (x=v)=true:=(aE2 x v).symm.trans h
   exact of_decide_eq_true this▸hx
  ·intro h
   exact⟨v,h,(aE2 v v).trans (by simp)⟩
 simp [eF,items,h1,h2]
theorem o7 {l:List D} (h:plain (.lst l)=true) (k:dep (.lst l)<=60):eF .NotEq (.lst l) (.lst l)= .ok (.bl false):=by
 rw [oS (fT h h k),uW _ h];rfl
theorem wH (hN:N=2 ^ m) (hm:m<=2) (hF: ∀ f∈Fs,okF f) {Z:List Vec} (M:Made N m Fs Z) (so:Z.map (sw m)=lM (Z.map (sw m))) {ρ:Rho} (h1:aA 1 ρ= .ok (.lst (Fs.map fD))) (h2:aA 2 ρ= .ok (.int (m:Nat))) (hc:iH [2] ρ=[.sh (.int (m:Nat))]):
  aF 0 [2] (aB eE [aA 1,aA 2]) none (eG [aA 1,aA 0]) ρ= .ow (Z.map (sw m)):=by
 obtain⟨Y,e,K⟩:=aDb hN hm hF
 have ho:=aEt K.len
 obtain⟨Y',e',nd',mem'⟩:=lS (h:=vD) u7 ho
 have es:lM (Y.map vD)=d8 (Y.map vD):=rB ho (lQ u7 K.nd)
 rw [es] at e'
 have hcomp:aF 0 [2] (aB eE [aA 1,aA 2]) none (eG [aA 1,aA 0]) ρ= .ow (Y'.map (sw m)):=by
  refine dC (L:=Y') (h:=vD) (.inr (.inr ((dZ h1 h2).trans (e.trans (by rw [e']))))) fun v _=> ?_
  rw [hc]
  exact aHu (x:= .int (m:Nat)) rfl rfl
 rw [hcomp]
 congr 1
 -- one order
 have hmap:Y'.map (sw m)=d8 (Y.map (sw m)):=by
  have h3:d8 ((Y.map vD).map fun d=> .tup [.int (m:Nat),d])=(d8 (Y.map vD)).map fun d=> .tup [.int (m:Nat),d]:=rC (fun x y=>by
   show fI ((m:Int)::(eV x++[])) ((m:Int)::(eV y++[]))=fI (eV x) (eV y)
   simp [fI]) _
  rw [List.map_map,e',List.map_map] at h3
  exact h3.symm
 rw [hmap, <-rB (vC K.len) (lQ aEs K.nd),so]
 refine jG (vC M.len) fun x=> ?_
 rw [ao,ao]
 exact⟨fun⟨v,hv,e⟩=>⟨v,(K.same M v).mp hv,e⟩,fun⟨v,hv,e⟩=>⟨v,(K.same M v).mpr hv,e⟩⟩
theorem wI (hm:m<=2) {ρ:Rho} (h2:aA 2 ρ= .ok (.int (m:Nat))) (hc:iH [2] ρ=[.sh (.int (m:Nat))]):aB fM [aF 0 [2] (aK (aA 2)) none (aB d6 [aA 1,aA 0])] ρ= .ow ((nm m).map (sw m)):=by
 have h:=rD hm .no .no .no
 have e:aF 0 [2] (aK (aA 2)) none (aB d6 [aA 1,aA 0]) ρ=aF 0 [1] (aK (aA 1)) none (aB d6 [aA 1,aA 0]) [.no, .sh (.int (m:Nat)), .no, .no]:=by
  unfold aF
  rw [hc]
  have a:aK (aA 2) ρ=aK (aA 1) [.no, .sh (.int (m:Nat)), .no, .no]:=by unfold aK;rw [h2];rfl
  rw [a];rfl
 exact(aAt e).trans h
end
theorem wJ (ns:List Int) {ρ:Rho} (h0:aA 0 ρ= .ok (Sc ns)) (hc:iH [0] ρ=[.sh (Sc ns)]): ∃ Fs:FL,(∀ f∈Fs,okF f)/\(Fs.length=1\/Fs.length=2)/\aF 0 [0] (aK (aJ .Add (rK (.int 1)) (aB aE [aA 0,rK (.int 4),rK (.int 2)]))) none (aB cT [aA 1,aJ .Add (rK (.int 10)) (aJ .Mult (rK (.int 40)) (aA 0)),aB aE [aA 1,aA 0,rK (.int 3)]]) ρ= .ow (Fs.map fD):=by
 obtain⟨p,ep,lp⟩:=cI ns 4 (m:=2) (by decide)
 obtain⟨xs,e,l,q⟩:=eA (n:=0) (cs:=[0]) (it:=aK (aJ .Add (rK (.int 1)) (aB aE [aA 0,rK (.int 4),rK (.int 2)]))) (e:=aB cT [aA 1,aJ .Add (rK (.int 10)) (aJ .Mult (rK (.int 40)) (aA 0)),aB aE [aA 1,aA 0,rK (.int 3)]]) (ρ:=ρ) (ds:=pQ (1+p)) (P:=fun d=> ∃ f,okF f/\d=fD f)
  (.inl (cN ((aN rfl ((bN (y:= .int ((4:Nat):Int)) (z:= .int ((2:Nat):Int)) h0 rfl rfl).trans ep)).trans rfl) (by omega))) fun d h=>by
   obtain⟨j,hj,rfl⟩:=gQ h
   obtain⟨k,ek,lk⟩:=cI ns j (m:=3) (by decide)
   obtain⟨bs,g,es⟩:=aC2 ns (10+40 * j) (m:=k) (by omega)
   refine⟨_,_,rfl, ?_,(k,bs),⟨by show k<=2;omega,g.2⟩,rfl⟩
   rw [hc]
   refine(bN (y:= .int ((10+40 * j:Nat):Int)) (z:= .int (k:Nat)) rfl ?_ ?_).trans es
   ·refine(aN rfl ((aN rfl rfl).trans (aLq rfl))).trans ?_
    rfl
   ·exact(bN (y:= .int (j:Nat)) (z:= .int ((3:Nat):Int)) rfl rfl rfl).trans ek
 have un: ∀ {xs:List D},(∀ d∈xs, ∃ f,okF f/\d=fD f)-> ∃ Fs:FL,xs=Fs.map fD/\ ∀ f∈Fs,okF f:=by
  intro xs
  induction xs with
  | nil=>intro _;exact⟨[],rfl,nofun⟩
  | cons d xs ih=>
   intro h
   obtain⟨f,hf,rfl⟩:=h d (.head _)
   obtain⟨Fs,rfl,hF⟩:=ih fun x hx=>h x (.tail _ hx)
   refine⟨f::Fs,rfl,fun g hg=> ?_⟩
   rcases aq.mp hg with rfl | hg
   ·exact hf
   ·exact hF g hg
 obtain⟨Fs,rfl,hF⟩:=un q
 refine⟨Fs,hF, ?_,e⟩
 rw [am,dH] at l
 omega
theorem wK (ns:List Int) {ρ:Rho} (h0:aA 0 ρ= .ok (Sc ns)): ∃ m:Nat,m<=2/\rIx (cM [rK (.int 0),rK (.int 1),rK (.int 1),rK (.int 2),rK (.int 2)]) (aB aE [aA 0,rK (.int 5),rK (.int 5)]) ρ= .ok (.int (m:Nat)):=by
 obtain⟨p,e,l⟩:=cI ns 5 (m:=5) (by decide)
 have hx:aB aE [aA 0,rK (.int 5),rK (.int 5)] ρ= .ok (.int p):=(bN (y:= .int ((5:Nat):Int)) (z:= .int ((5:Nat):Int)) h0 rfl rfl).trans e
 rcases(show p=0\/p=1\/p=2\/p=3\/p=4 by omega) with rfl | rfl | rfl | rfl | rfl
 ·exact⟨0,by omega,(lN rfl hx).trans (dI rfl)⟩
 ·exact⟨1,by omega,(lN rfl hx).trans (dI rfl)⟩
 ·exact⟨1,by omega,(lN rfl hx).trans (dI rfl)⟩
 ·exact⟨2,by omega,(lN rfl hx).trans (dI rfl)⟩
 ·exact⟨2,by omega,(lN rfl hx).trans (dI rfl)⟩
theorem rG {ws:List D} (h: ∀ w∈ws,bit w):cJ ws=0/\f8 ws=ws.length:=by
 induction ws with
 | nil=>exact⟨rfl,rfl⟩
 | cons w r ih=>
  obtain⟨a,b⟩:=ih fun x m=>h x (.tail _ m)
  rcases h w (.head _) with rfl | rfl<;>exact⟨by simp [cJ,f9,a],by simp [f8,cnt,b];omega⟩
noncomputable def aAv:FS:=(sIf (aP .NotEq (aF 0 [5] (aC 7) (some (aP .NotIn (aA 1) (aB cF [aA 0]))) (aA 0)) (cM []))
  (bT (rK (.bl false)))
  (bW))
noncomputable abbrev w10 (ns:List Int) (Fs:FL) (m:Nat) (a b c d e:Slot):Rho:=[.sh (Sc ns), .sh (.lst (Fs.map fD)), .sh (.int (m:Nat)), .sh (.lst WL), .sh (.lst (Fs.map aDg)),a,b,c,d,e]
noncomputable abbrev dW (Fs:FL):Slot:= .sh (.lst ((l8 Fs).map wd))
noncomputable abbrev lZ (m:Nat) (Z:List Vec):Slot:= .sh (.lst (Z.map (sw m)))
theorem law_true (ns:List Int):aN3 [.lst (ns.map D.int)]= .ok (.bl true):=by
 obtain⟨Fs,hF,hl,e1⟩:=wJ ns (ρ:=[.sh (Sc ns), .no, .no, .no, .no, .no, .no, .no, .no, .no]) rfl rfl
 obtain⟨m,hm,e2⟩:=wK ns (ρ:=[.sh (Sc ns), .sh (.lst (Fs.map fD)), .no, .no, .no, .no, .no, .no, .no, .no]) rfl
 have lF:Fs.length<=10:=by omega
 obtain⟨Z,eZ,M,so⟩:=oU rfl hm hF lF
 obtain⟨Z0,eZ0,M0,so0⟩:=oU (Fs:=[]) rfl hm nofun (by simp)
 have hFd: ∀ f∈Fs.dropLast,okF f:=fun f hf=>hF f (List.dropLast_subset _ hf)
 obtain⟨Zl,eZl,Ml,_⟩:=oU (m:=1) (Fs:=Fs.dropLast) rfl (by decide) hFd (by simp;omega)
 obtain⟨Z1,eZ1,M1,_⟩:=oU (m:=1) (Fs:=Fs) rfl (by decide) hF lF
 obtain⟨f0,Fr,rfl⟩: ∃ f0 Fr,Fs=f0::Fr:=by
  match Fs,hl with
  | [],h=>simp at h
  | f::r,_=>exact⟨f,r,rfl⟩
 have hf0:=hF f0 (.head _)
 obtain⟨bad,eb,pb,_,_⟩:=aAp ns 140 (d:=fD f0) (aAh _ _) (by
  obtain⟨c2,c3⟩:=rG (nF f0.2)
  simp [fD,sw,f9,cJ,c2]) (by
  obtain⟨c2,c3⟩:=rG (nF f0.2)
  have h1:=hf0.1
  have h2:2 ^ f0.1<=2 ^ 2:=Nat.pow_le_pow_right (by decide) h1
  have h3:=hf0.2
  simp [fD,sw,cnt,f8,c3];omega)
 generalize hFs:f0::Fr=Fs at *
 have hd0:fD f0=fD f0:=rfl
 have ix0: ∀ {ρ:Rho},aC 1 ρ= .ok (.lst (Fs.map fD))->rIx (aC 1) (rK (.int 0)) ρ= .ok (fD f0):=fun h=>(dO h rfl).trans (dI (n:=0) (by rw [<-hFs];rfl))
 -- due
 have e6: ∀ s5 s6 s7 s8 s9,aF 0 [4] (aC 3) (some (aP .Eq (aF 0 [0] (aC 1) (some (aP .NotIn (aA 1) (aA 0))) (aA 0)) (cM []))) (aA 0) (w10 ns Fs m s5 s6 s7 s8 s9)= .ow ((l8 Fs).map wd):=fun s5 s6 s7 s8 s9=>by
  refine i6 (L:=List.range 5) (h:=wd) (.inl rfl) (fun c hc=> ?_) fun c _=>rfl
  have hi:aF 0 [0] (aC 1) (some (aP .NotIn (aA 1) (aA 0))) (aA 0) [.sh (wd c), .sh (.lst (Fs.map aDg))]= .ow ((Fs.filter fun f=> !has c f).map aDg):=
   i6 (L:=Fs) (h:=aDg) (.inl rfl) (fun f _=>(aZ rfl rfl).trans (aId (zRd hc)).2) fun f _=>rfl
  refine(gP (b:=cM []) hi (y:=[]) rfl).trans ((eq_nil (aIf _)).trans ?_)
  rw [oZ,aDl]
 have dpl:=aDh (nH (Fs:=Fs))
 have ddp:=aEy (nH (Fs:=Fs))
 refine aW ((aD (cD e1)).trans ((aD (aV e2)).trans ((aD (cD (d:=WL) rfl)).trans ((aD (cD (vG hF (i:=1) rfl))).trans ((aD (cD (e6 .no .no .no .no .no))).trans ((aD ((cE ?_).trans rfl)).trans ((aD (aV ((bN (x:= .int ((0:Nat):Int)) rfl rfl rfl).trans (nI (.inl ⟨rfl,eZ⟩) (.inl rfl))))).trans ((aD ((cE ?_).trans rfl)).trans ((aD ((cE ?_).trans rfl)).trans ((aD (ρ':=[.sh (Sc ns), .sh (.lst (Fs.map fD)), .sh (.int (m:Nat)), .sh (.lst WL), .sh (.lst (Fs.map aDg)), ?s5, .sh (.lst ((l8 Fs).map wd)), .sh (.lst (Z.map (sw m))), .no, .no]) ?_).trans ?_))))))))))
 case s5=>exact(match(l8 Fs).getLast? with | some c=> .sh (wd c) | none=> .no)
 ·refine(fB ((aZ ((bN (x:= .int ((1:Nat):Int)) rfl rfl rfl).trans (nI (.inr (.inl ⟨rfl,jL hF⟩)) (.inr ⟨_,rfl,rfl⟩))) rfl).trans (o7 dpl ddp))).trans ?_
  refine(aZ ((bN (x:= .int ((2:Nat):Int)) rfl rfl rfl).trans (nI (.inr (.inr ⟨rfl,aAs hF⟩)) (.inl rfl))) ((iZ rfl (y:=[]) rfl).trans (eq_nil dpl))).trans ?_
  rw [oZ]
  generalize (l8 Fs).isEmpty=b
  cases b<;>rfl
 ·exact(iZ rfl (wH rfl hm hF M so rfl rfl rfl)).trans (o7 (nJ Z).1 (nJ Z).2)
 ·have hEq:aP .Eq (aA 2) (rK (.int 2)) (w10 ns Fs m .no (dW Fs) (lZ m Z) .no .no)= .ok (.bl (decide ((m:Int)=2))):=(aZ rfl rfl).trans (aHz _ _)
  by_cases h2:m=2
  ·subst h2
   refine(iX (hEq.trans rfl)).trans ?_
   refine(aZ ((aZ ((aO (x:= .lst (Z.map (sw 2))) rfl).trans rfl) rfl).trans (aHz _ _)) ((iZ rfl (y:=[]) rfl).trans (eq_nil dpl))).trans ?_
   have hp:=post hF hl M
   rw [oZ, <-hp]
   have:decide ((((Z.map (sw 2)).length:Nat):Int)=16)=decide (Z.length=16):=by
    rw [am,decide_eq_decide];omega
   rw [this]
   generalize decide (Z.length=16)=b
   cases b<;>rfl
  ·refine uV (hEq.trans ?_)
   rw [decide_eq_false (by omega)]
 ·-- each word of all l4
  have body: ∀ (c:Nat) (s5:Slot),c∈l8 Fs->aAv (w10 ns Fs m (.sh (wd c)) (dW Fs) (lZ m Z) .no .no)= .nx (w10 ns Fs m (.sh (wd c)) (dW Fs) (lZ m Z) .no .no):=fun c s5 hc=>by
   have hi:aF 0 [5] (aC 7) (some (aP .NotIn (aA 1) (aB cF [aA 0]))) (aA 0) (w10 ns Fs m (.sh (wd c)) (dW Fs) (lZ m Z) .no .no)= .ow ((Z.filter fun v=> !(cls m v).getD c false).map (sw m)):=
    i6 (L:=Z) (h:=sw m) (.inl rfl) (fun v hv=>(iZ rfl ((aO rfl).trans (nG hm (M.len v hv)))).trans (aId (nH c hc)).2) fun v _=>rfl
   refine(cE ((gP (b:=cM []) hi (y:=[]) rfl).trans ((aEx (nJ _).1).trans ?_))).trans rfl
   have:Z.filter (fun v=> !(cls m v).getD c false)=[]:=by
    rw [List.filter_eq_nil_iff]
    intro v hv
    rw [l4 rfl hm hF hc M v hv];simp
   rw [this];rfl
  have go: ∀ (L:List Nat) (s5:Slot),(∀ c∈L,c∈l8 Fs)->bX (fJ [5] true) aAv (L.map wd) (w10 ns Fs m s5 (dW Fs) (lZ m Z) .no .no)= .nx (w10 ns Fs m ((match L.getLast? with | some c=> .sh (wd c) | none=>s5)) (dW Fs) (lZ m Z) .no .no):=by
   intro L
   induction L with
   | nil=>intro s5 _;rfl
   | cons c L ih=>
    intro s5 h
    show(match aAv (w10 ns Fs m (.sh (wd c)) (dW Fs) (lZ m Z) .no .no) with | .nx ρ2=>bX (fJ [5] true) aAv (L.map wd) ρ2 | .ct ρ2=>_ | .bk ρ2=>_ | .rt r=>_ | .ex c ρ2=>_)=_
    rw [body c s5 (h c (.head _))]
    show bX (fJ [5] true) aAv (L.map wd) _=_
    rw [ih (.sh (wd c)) fun x hx=>h x (.tail _ hx)]
    cases L with
    | nil=>rfl
    | cons d L=>rfl
  exact(eB (ds:=(l8 Fs).map wd) (.inl rfl)).trans (go (l8 Fs) .no fun _ h=>h)
 generalize (match(l8 Fs).getLast? with | some c=>Slot.sh (wd c) | none=> .no)=s5
 -- the d7
 have hnone:l8 ([]:FL)=[0,1,2,3,4]:=rfl
 have e0:cP [.lst [], .int (m:Nat)]= .ok (.lst ((nm m).map (sw m))):=by
  have hz:Z0.map (sw m)=(nm m).map (sw m):=by
   obtain⟨n1,n2,n3⟩:=aLz (m:=m) rfl hm
   rw [so0,n3]
   refine jG (vC n2) fun x=> ?_
   rw [ao,ao]
   have hh: ∀ v,v∈Z0↔v∈nm m:=fun v=>⟨fun hv=>M0.der (fun v=>v∈nm m) (fun _ h=>h) (fun f hf=>nomatch hf) v hv,M0.nam v⟩
   exact⟨fun⟨v,hv,e⟩=>⟨v,(hh v).mp hv,e⟩,fun⟨v,hv,e⟩=>⟨v,(hh v).mpr hv,e⟩⟩
  have:=eZ0
  rw [hz] at this
  exact this
 have hcut:gS (aC 1) none (some (aAw (rK (.int 1)))) (w10 ns Fs m s5 (dW Fs) (lZ m Z) .no .no)= .ow (Fs.dropLast.map fD):=by
  show R.ow (vO (Fs.map fD) none (some (-1)))=_
  rw [aDk,List.map_dropLast]
 refine(aD ((cE ?_).trans rfl)).trans ((aD (aV (d:= .lst (Zl.map (sw 1))) ?_)).trans ((aD ((cE ?_).trans rfl)).trans ((aD ((cE ?_).trans rfl)).trans ((aD (aV ((bN (y:= .int ((140:Nat):Int)) rfl rfl (ix0 rfl)).trans eb))).trans (aR ?_)))))
 ·refine(fB ?_).trans ?_
  ·have h1:aB aT [rK (.int 1),cM [],rK .non] (w10 ns Fs m s5 (dW Fs) (lZ m Z) .no .no)= .ok (.lst WL):=by
    show aT [.int ((1:Nat):Int), .lst [], .non]=_
    exact nI (.inr (.inl ⟨rfl,jL (Fs:=[]) nofun⟩)) (.inr ⟨_,rfl,rfl⟩)
   exact(aZ h1 rfl).trans (o7 (aDh (L:=[0,1,2,3,4]) (by decide)) (aEy (L:=[0,1,2,3,4]) (by decide)))
  ·have h1:aB aT [rK (.int 0),cM [],aA 2] (w10 ns Fs m s5 (dW Fs) (lZ m Z) .no .no)= .ok (.lst ((nm m).map (sw m))):=by
    show aT [.int ((0:Nat):Int), .lst [], .int (m:Nat)]=_
    exact nI (.inl ⟨rfl,e0⟩) (.inl rfl)
   exact(iZ h1 (wI hm rfl rfl)).trans (o7 (nJ _).1 (nJ _).2)
 ·have h1:aB aT [rK (.int 0),gS (aC 1) none (some (aAw (rK (.int 1)))),rK (.int 1)] (w10 ns Fs m s5 (dW Fs) (lZ m Z) .no .no)=aT [.int 0, .lst (Fs.dropLast.map fD), .int 1]:=by
   simp only [aB,o8,args,hcut]
   rfl
  exact h1.trans (nI (what:=0) (.inl ⟨rfl,eZl⟩) (.inl rfl))
 ·have hi:aF 0 [1] (aC 8) (some (aP .NotIn (aA 0) (aB cP [aA 1,rK (.int 1)]))) (aA 0) (w10 ns Fs m s5 (dW Fs) (lZ m Z) (lZ 1 Zl) .no)= .ow ((Zl.filter fun v=> !Z1.contains v).map (sw 1)):=
   i6 (L:=Zl) (h:=sw 1) (.inl rfl) (fun v _=>(aZ rfl ((dZ rfl rfl).trans eZ1)).trans (aDm v Z1)) fun v _=>rfl
  refine(gP (b:=cM []) hi (y:=[]) rfl).trans ((aEx (nJ _).1).trans ?_)
  have:Zl.filter (fun v=> !Z1.contains v)=[]:=by
   rw [List.filter_eq_nil_iff]
   intro v hv
   have:=Ml.der (fun v=>v∈Z1) M1.nam (fun f hf=>M1.closed f (List.dropLast_subset _ hf)) v hv
   simp [this]
  rw [this];rfl
 ·have hi:aF 0 [1] (eG [aAw (rK (.int 1)),rK (.int 3)]) none (aB aT [rK (.int 0),aA 1,aA 0]) (w10 ns Fs m s5 (dW Fs) (lZ m Z) (lZ 1 Zl) .no)= .ow (([-1,3]:List Int).map fun _=> .str "no name"):=
   dC (L:=([-1,3]:List Int)) (h:=D.int) (.inr (.inl rfl)) fun i hi=>by
    refine(bN (x:= .int ((0:Nat):Int)) rfl rfl rfl).trans (aIh hF ?_)
    rcases aq.mp hi with rfl | hi
    ·rfl
    ·rw [List.mem_singleton.mp hi];rfl
  exact(gP hi (y:=[.str "no name", .str "no name"]) rfl).trans (by kernel_rfl)
 ·have hsw:aB dB [aA 9] (w10 ns Fs m s5 (dW Fs) (lZ m Z) (lZ 1 Zl) (.sh bad))= .ok (.bl (q8 bad)):=(aO rfl).trans (oY pb)
  cases hb:q8 bad with
  | true=>exact wA (hsw.trans (by rw [hb]))
  | false=>
   refine(fB (hsw.trans (by rw [hb]))).trans ?_
   have hi:aF 0 [9,1] (aK (rK (.int 3))) none (aB aT [aA 0,aJ .Add (aA 2) (cM [aA 1]),rK (.int 9)]) (w10 ns Fs m s5 (dW Fs) (lZ m Z) (lZ 1 Zl) (.sh bad))= .ow ((List.range 3).map fun _=> .str "no switch"):=
    dC (L:=List.range 3) (h:=fun(k:Nat)=>D.int (k:Int)) (.inl (cN (n:=3) rfl (by decide))) fun k hk=>by
     have hadd:aJ .Add (aA 2) (cM [aA 1]) [.sh (.int (k:Nat)), .sh bad, .sh (.lst (Fs.map fD))]= .ow (Fs.map fD++[bad]):=by
      show(if(Fs.map fD).length+[bad].length<=LIM then R.ow (Fs.map fD++[bad]) else .bad)=_
      rw [if_pos (by rw [am];show Fs.length+1<=100000;omega)]
     have:aB aT [aA 0,aJ .Add (aA 2) (cM [aA 1]),rK (.int 9)] [.sh (.int (k:Nat)), .sh bad, .sh (.lst (Fs.map fD))]=aT [.int (k:Nat), .lst (Fs.map fD++[bad]), .int 9]:=by
      simp only [aB,o8,args,hadd]
      rfl
     exact this.trans (aL9 hF pb hb (zRd hk))
   exact(gP hi (y:=[.str "no switch", .str "no switch", .str "no switch"]) rfl).trans (by kernel_rfl)
open PySem.Spec PyProof.Rows L2 PySem.W
noncomputable abbrev KK (w:World):PySem.W.Frag:=kK w.params
set_option maxHeartbeats 0 in
theorem all_mk {l:PySem.W.OpenLaw} {w:World} {h:Heap} {mg:Str->Option Value} {fa:Addr} (X:(KK w).In h) (G:h.Ns mainGlobals mg) (hfa:mg "law"=some (.ref fa)):
  ∃ fd:FuncData,(∀ (s:Shared) (v:Value),BindsTo s fd ⟨[v],[]⟩ [("_law_script",v)])/\ ∀ base:Heap,(KK w).In base->base.Ns mainGlobals mg->FnOk l.prog w (KK w) mg base (CXe l.prog w) 77 fa fd ["_law_script"] (aCw (KK w)):=by
 cases hfa.symm.trans (PySem.W.mg_of X G (n:="law") (v:= .ref 381) (by kernel_rfl))
 refine⟨PySem.W.fnOf "law" "law" (defArgs (top 62)) (defBody (top 62)) (defScope (top 62)) .none .none .none (.str "law_switchkinds_k52_whole_enough" 525) none (.ref 380) .none,fun s v=> .of_eq rfl,fun base _ _=> ?_⟩
 have t:PQ l.prog w (KK w) mg base h (aHq [24,37,49,61,73,85,97] 24 [106,113,118,125,132,139,144,151,158,165,172,179,184,189,194,199,204,209,216,223,231,236,241,246,251,258,263,268,275,280,287,294,304,314,299,326,333,340,347,352,364,371,376,381]) 0 [] []:= .nil X G (aHr (by kernel_rfl) (by kernel_rfl))
 have t:=t.int "MOST_NAMES" 4 305
 have t:=t.int "MOST_NAMES_MADE" 2 455
 have t:=t.val "WORDS" (u:= .ref 224) (v:= .ref 224) rfl (aCu (ss:=["keeps 0","keeps 1","turned","rising","sum"]) rfl rfl rfl rfl (by decide) (by repeat (first | exact .nil | refine .cons ⟨_,rfl⟩ ?_)))
 have t:=t.exc "SwitchError" 0
 have t:=t.exc "NoSwitch" 1
 have t:=t.exc "NoName" 2
 have t:=t.exc "NoMove" 3
 have t:=t.exc "Unlike" 4
 have t:=t.exc "NoSums" 5
 have t:=t.exc "NoText" 6
 have t:=t.verr
 have t:=t.py .len
 have t:=t.py .range
 have t:=t.py .enum
 have t:=t.py .zip
 have t:=t.py .isin
 have t:=t.py .int
 have t:=t.py .bool
 have t:=t.py .tuple
 have t:=t.py .list
 have t:=t.py .sum
 have t:=t.py .all
 have t:=t.py .sorted
 have t:=t.py .max
 have t:=t.py .abs
 have t:=t.py .set
 have t:=t.add "is_whole" (top 10) 106 ["thing"] 1 nC rfl
 have t:=t.add "is_whole_below" (top 11) 113 ["thing","bound"] 2 bC rfl
 have t:=t.add "are_whole_below" (top 12) 118 ["things","bound"] 2 dJ rfl
 have t:=t.add "is_many" (top 13) 125 ["thing"] 1 gI rfl
 have t:=t.add "is_row" (top 14) 132 ["thing","length","bound"] 3 oT rfl
 have t:=t.add "how_many_settings" (top 15) 139 ["many"] 1 aL rfl
 have t:=t.add "setting_at" (top 16) 144 ["many","number"] 2 jT rfl
 have t:=t.add "how_many_ones" (top 17) 151 ["number"] 1 gJ rfl
 have t:=t.add "is_switch" (top 19) 158 ["thing"] 1 iF rfl
 have t:=t.add "check_switch" (top 20) 165 ["thing"] 1 aI rfl
 have t:=t.add "check_many" (top 21) 172 ["thing"] 1 jU rfl
 have t:=t.add "check_name" (top 22) 179 ["many","thing"] 2 jV rfl
 have t:=t.add "ones" (top 23) 184 ["switch"] 1 aEo rfl
 have t:=t.add "single" (top 24) 189 ["many","name"] 2 d6 rfl
 have t:=t.addR "summed" (top 26) 194 ["numbers"] 1 uX 12 rfl
 have t:=t.add "sums" (top 27) 199 ["switch"] 1 aEp rfl
 have t:=t.add "sum_of_names" (top 28) 204 ["many","number","turn"] 3 gZ rfl
 have t:=t.add "nearest" (top 29) 209 ["switch"] 1 qW rfl
 have t:=t.add "how_far" (top 30) 216 ["switch"] 1 qX rfl
 have t:=t.add "is_sum" (top 31) 223 ["switch"] 1 uY rfl
 have t:=t.add "check_switches" (top 35) 231 ["things"] 1 bZ rfl
 have t:=t.add "rising_above" (top 36) 236 ["switch"] 1 g0 rfl
 have t:=t.add "turns_with_names" (top 37) 241 ["switch"] 1 eO rfl
 have t:=t.add "classes" (top 38) 246 ["switch"] 1 cF rfl
 have t:=t.add "missing" (top 39) 251 ["some"] 1 cG rfl
 have t:=t.add "is_enough" (top 40) 258 ["some"] 1 cQ rfl
 have t:=t.add "first_put_in" (top 41) 263 ["rests","other"] 2 cO rfl
 have t:=t.add "all_put_in" (top 42) 268 ["switch","many","parts"] 3 eP rfl
 have t:=t.add "grown_by" (top 43) 275 ["some","many","made"] 3 fC rfl
 have t:=t.add "made_of" (top 44) 280 ["some","many"] 2 cP rfl
 have t:=t.add "_law_cell" (top 46) 287 ["_law_script","_law_k"] 2 gR rfl
 have t:=t.add "_law_pick" (top 47) 294 ["_law_script","_law_k","_law_many"] 3 aE rfl
 have t:=t.add "_law_setting" (top 49) 304 ["_law_many","_law_number_here"] 2 aS rfl
 have t:=t.add "_law_odd" (top 51) 314 ["_law_one","_law_other"] 2 gK rfl
 have t:=t.add "_law_switch" (top 48) 299 ["_law_script","_law_at","_law_many"] 3 cT rfl
 have t:=t.addR "_law_places" (top 53) 326 ["_law_thing"] 1 cH 12 rfl
 have t:=t.addR "_law_put" (top 54) 333 ["_law_thing","_law_place","_law_new"] 3 eC 12 rfl
 have t:=t.add "_law_spoilt_thing" (top 55) 340 ["_law_script","_law_at","_law_thing"] 3 bA rfl
 have t:=t.add "_law_is_bit" (top 56) 347 ["_law_thing"] 1 dQ rfl
 have t:=t.add "_law_is_switch" (top 57) 352 ["_law_thing"] 1 dB rfl
 have t:=t.add "_law_word" (top 59) 364 ["_law_kept"] 1 fE rfl
 have t:=t.add "_law_do" (top 60) 371 ["_law_what","_law_some","_law_many"] 3 aT rfl
 have t:=t.add "_law_found" (top 61) 376 ["_law_some","_law_many"] 2 eE rfl
 exact aHs (zV (ps:=["_law_script"]) t.B t.t j5.nil (w8 (x:="law") (st:=top 62) (f:=381) rfl (by kernel_rfl) (by kernel_rfl)) rfl (by kernel_rfl)) law_true
end SK.k52
open PySem PySem.W PyProof.Rows
set_option maxRecDepth 100000 in
set_option maxHeartbeats 0 in
theorem PySem.Challenge.cw_switchkinds_k52_whole_enough_holds : PySem.Challenge.rw_switchkinds_k52_whole_enough.Holds := by
 w_on;o_law
 refine PySem.W.holds_open (q:=SK.k52.kq) (loose:=[]) (Xt:=fun s=>PySem.W.xlAt SK.k52.kq [] s&&PySem.W.recOk (PySem.W.RowW.records (PySem.W.OpenRow.toRowW PySem.Challenge.rw_switchkinds_k52_whole_enough.row)) s) (XP:=PySem.W.XL SK.k52.kq []) (Yf:=PySem.W.Hook.obs (PySem.W.kHook SK.k52.kK SK.k52.kas (fun _=>by kernel_rfl))) (Ya:=PySem.W.Hook.val (PySem.W.kHook SK.k52.kK SK.k52.kas (fun _=>by kernel_rfl))) (YP:=PySem.W.Hook.says (PySem.W.kHook SK.k52.kK SK.k52.kas (fun _=>by kernel_rfl))) (N:=5872) SK.k52.left (PySem.W.Hook.of (PySem.W.kHook SK.k52.kK SK.k52.kas (fun _=>by kernel_rfl))) (PySem.W.Hook.keeps (PySem.W.kHook SK.k52.kK SK.k52.kas (fun _=>by kernel_rfl))) (fun s e=>PySem.W.xl_of s (Bool.and_eq_true_iff.mp e).1) PySem.W.XL.keeps (by rfl) (by rfl) (by rfl) (fun s e=>PySem.W.recFacts_of (Bool.and_eq_true_iff.mp e).2) (by rfl) (by first | assumption | decide+kernel) (by decide+kernel) ⟨rfl,rfl,rfl,rfl,rfl,by decide+kernel⟩ ?hw ?hc
 (case hw=>w_witness2)
 refine SK.walk (l:=PySem.Challenge.rw_switchkinds_k52_whole_enough) 77 rfl rfl ⟨rfl,by decide,by decide⟩ (fun w h Y=>PySem.W.kIn_of Y) ?F
 case F=>
  intro w mg fa h KX G hmg
  exact SK.k52.all_mk KX G hmg
