import PyProof.Rows.All
import Wide.All
import OpenK.AllK
import Wide.FinOn
import Lean
import PyProof.EqAt
import PyProof.EqKinds
import PyProof.TupleCall
import PySem.Syntax
import PySem.Builtin.Int.W1All
import PySem.Eval
import PyProof.P3Eq
import PyProof.NeData
import PyProof.Rows.IntBool
import PyProof.ExcArgs
import PyProof.RulesAs
import PyProof.RulesDel
import KE.KTryMore
import PyProof.ZipIter
import PyProof.EnumStmt
import PyProof.ListRange
import PyProof.TupleOfSeq
import PyProof.ConsumeS
import PyProof.Rows.MinMaxGenD
import PyProof.Rows.RuleM_int
import KE.KRevSl
import PyProof.SetNew
import PyProof.Rows.SetFrom
import PyProof.Rows.CallKwBuiltin
import PyProof.TupleKey
import PyProof.FactsAll.NoneType
import KE.KSortTup
import PyProof.DictRoadsH
import PyProof.DictWalks
import KE.KUnpack
import PySem.Challenge.RW_switchkinds_k79_whole_kin_measured
theorem zBd {α β:Type} {o:Option α} {f:α→Option β} {b:β} (h:o.bind f=some b): ∃ a,o=some a∧f a=some b:=Option.bind_eq_some_iff.mp h
theorem zMd {α β:Type} {o:Option α} {f:α→β} {b:β} (h:o.map f=some b): ∃ a,o=some a∧f a=b:=Option.map_eq_some_iff.mp h
theorem zAd {α:Type} {l:List α} {p:α→Bool} (h:l.all p=true): ∀ x,x∈l→p x=true:=List.all_eq_true.mp h
theorem zPd {m n:Nat} (h:m<n):m∈List.range n:=List.mem_range.mpr h
theorem zRd {m n:Nat} (h:m∈List.range n):m<n:=List.mem_range.mp h
set_option Elab.async false
set_option linter.all false
set_option maxRecDepth 100000
set_option maxHeartbeats 0
namespace L2
open PySem
noncomputable def defArgs (s:Stmt):Arguments:=match s with
 | .FunctionDef _ a _ _ _ _ _ _ _ _=>a
 | _=>{ posonlyargs:=[],args:=[],vararg:=none,kwonlyargs:=[],kw_defaults:=[],kwarg:=none,defaults:=[] }
noncomputable def defBody (s:Stmt):List Stmt:=match s with
 | .FunctionDef _ _ b _ _ _ _ _ _ _=>b
 | _=>[]
noncomputable def defScope (s:Stmt):Scope:=match s with
 | .FunctionDef _ _ _ _ _ _ sc _ _ _=>sc
 | _=>{ kind:= .function,names:=[],isGenerator:=false,isCoroutine:=false }
end L2
namespace SK.k79
open PySem
noncomputable def top (i:Nat):Stmt:=PySem.Challenge.pw_switchkinds_k79_whole_kin_measured.main.body.getD i (.Pass ⟨0,0,0,0⟩)
noncomputable abbrev en (P:Params) (k:Str) (t:Nat) (v:Value):DictEntry:=⟨PyData.keyHash P k, .str k t,v⟩
noncomputable abbrev fo (st:Stmt) (x m:Str) (t c:Nat):Obj:={ cls:= .type "function",data:= .func { name:=x,qualname:=x,params:=L2.defArgs st,body:= .stmts (L2.defBody st),scope:=L2.defScope st,globals:=3,closure:=[],defaults:= .none,kwdefaults:= .none,pyModule:= .str m t,code:= .ref c } }
noncomputable abbrev co (vs:Array Value):Obj:={ cls:= .type "code",data:= .fields vs }
noncomputable abbrev cC (x:Str) (a l n r e:Nat) (u v w:Value):Obj:=co #[.str x a, .str x (a+1), .str "/claim/cut.py" (a+2), .int l 0, .int n 0, .int 0 0, .int 0 0, .int 3 0, .ref r, .bool true, .int 181 0, .ref (r+1), .none,u,v,w, .int e 0, .int l 0, .str "/claim/cut.py" (e+1)]
noncomputable abbrev cA (x:Str) (a l n r e:Nat):Obj:=cC x a l n r e .none .none (.ref (r+2))
noncomputable abbrev cB (x:Str) (a l n r e:Nat):Obj:=cC x a l n r e (.ref (r+2)) (.ref (r+3)) (.ref (r+4))
noncomputable abbrev cK (x:Str) (f c ns s a b:Nat):Obj:={ cls:= .type "type",data:= .cls { name:=x,bases:=[.ref c],mro:=[.ref f, .ref c, .type "ValueError", .type "Exception", .type "BaseException", .type "object"],ns:=ns,qualname:=x },slots:= #[some (.ref s),none,some (.str x a),some (.str x b),some (.builtin "ValueError.__new__"),some (.bool true)] }
noncomputable abbrev dK (P:Params) (m:Str) (q a l r:Nat):Obj:={ cls:= .type "dict",data:= .dict #[en P "__module__" a (.str m q),en P "__firstlineno__" (a+4) (.int l (a+3)),en P "__static_attributes__" (a+5) (.ref r),en P "__doc__" (a+6) .none] 2 }
noncomputable def kK:Params→PySem.W.Frag:=fun P=>[
(3,{ cls:= .type "dict",data:= .dict #[en P "__name__" 165 (.str "law_switchkinds_k79_whole_kin_measured" 697),en P "__doc__" 166 .none,en P "__package__" 167 .none,en P "__loader__" 168 (.builtin "__main__.__loader__#opaque"),en P "__spec__" 169 .none,en P "__annotations__" 170 (.ref 6),en P "__builtins__" 171 (.ref 4),en P "__file__" 173 (.str "/claim/cut.py" 172),en P "__cached__" 174 .none,en P "SwitchError" 206 (.ref 24),en P "NoSwitch" 222 (.ref 37),en P "NoName" 238 (.ref 49),en P "NoMove" 254 (.ref 61),en P "Unlike" 270 (.ref 73),en P "NoTerm" 286 (.ref 85),en P "MOST_NAMES" 290 (.int 4 289),en P "MOST_NAMES_LISTED" 292 (.int 3 291),en P "is_whole" 299 (.ref 94),en P "is_whole_below" 307 (.ref 101),en P "are_whole_below" 313 (.ref 106),en P "is_many" 320 (.ref 113),en P "is_many_listed" 327 (.ref 120),en P "is_row" 336 (.ref 127),en P "all_rows" 347 (.ref 134),en P "how_many_settings" 354 (.ref 141),en P "setting_at" 360 (.ref 146),en P "number_of" 366 (.ref 151),en P "all_settings" 372 (.ref 156),en P "how_many_ones" 379 (.ref 163),en P "is_switch" 388 (.ref 170),en P "check_switch" 395 (.ref 177),en P "check_alike" 403 (.ref 184),en P "check_many" 410 (.ref 191),en P "check_name" 418 (.ref 198),en P "ones" 424 (.ref 203),en P "odd_within" 432 (.ref 208),en P "products" 440 (.ref 215),en P "degree" 446 (.ref 220),en P "is_order" 456 (.ref 227),en P "is_move" 464 (.ref 234),en P "check_move" 472 (.ref 241),en P "names_of" 479 (.ref 248),en P "led" 485 (.ref 253),en P "moved" 491 (.ref 258),en P "still" 498 (.ref 265),en P "behind" 504 (.ref 270),en P "back" 510 (.ref 275),en P "all_orders" 516 (.ref 280),en P "all_moves" 526 (.ref 287),en P "how_much" 534 (.ref 292),en P "needed" 540 (.ref 297),en P "marks" 546 (.ref 302),en P "check_listed" 555 (.ref 309),en P "check_one" 562 (.ref 316),en P "check_two" 570 (.ref 323),en P "all_led" 576 (.ref 328),en P "least_form" 583 (.ref 335),en P "are_kin" 591 (.ref 342),en P "summed" 599 (.ref 347),en P "sums" 605 (.ref 352),en P "by_weights" 615 (.ref 359),en P "sum_of_names" 621 (.ref 364),en P "nearest" 627 (.ref 369),en P "how_far" 634 (.ref 376),en P "is_flattest" 640 (.ref 381),en P "PARTS" 645 (.ref 382),en P "is_part" 652 (.ref 389),en P "is_term" 658 (.ref 394),en P "check_term" 666 (.ref 401),en P "held_at" 672 (.ref 406),en P "all_terms" 678 (.ref 411),en P "widened" 684 (.ref 416),en P "primes" 690 (.ref 421),en P "essentials" 696 (.ref 426),en P "_law_cell" 706 (.ref 433),en P "_law_pick" 716 (.ref 440),en P "_law_setting" 722 (.ref 445),en P "_law_odd" 728 (.ref 450),en P "_law_switch" 734 (.ref 455),en P "law" 740 (.ref 460)] 80 }),
(23,{ cls:= .type "dict",data:= .dict #[en P "__module__" 196 (.str "switchkinds.errors" 187),en P "__firstlineno__" 200 (.int 2 199),en P "__static_attributes__" 201 (.ref 22),en P "__weakref__" 203 (.ref 25),en P "__doc__" 204 .none] 3 }),
(24,{ cls:= .type "type",data:= .cls { name:="SwitchError",bases:=[.type "ValueError"],mro:=[.ref 24, .type "ValueError", .type "Exception", .type "BaseException", .type "object"],ns:=23,qualname:="SwitchError",subclasses:=[.ref 37, .ref 49, .ref 61, .ref 73, .ref 85] },slots:= #[some (.ref 15),none,some (.str "SwitchError" 189),some (.str "SwitchError" 197),some (.builtin "ValueError.__new__"),some (.bool true)] }),
(25,{ cls:= .type "getset_descriptor",data:= .fields #[.str "__weakref__" 202, .ref 24, .builtin "ExceptionGroup.__weakref__", .none] }),
(36,dK P "switchkinds.errors" 187 214 4 35),
(37,cK "NoSwitch" 37 24 36 28 207 215),
(48,dK P "switchkinds.errors" 187 230 6 47),
(49,cK "NoName" 49 24 48 40 223 231),
(60,dK P "switchkinds.errors" 187 246 8 59),
(61,cK "NoMove" 61 24 60 52 239 247),
(72,dK P "switchkinds.errors" 187 262 10 71),
(73,cK "Unlike" 73 24 72 64 255 263),
(84,dK P "switchkinds.errors" 187 278 12 83),
(85,cK "NoTerm" 85 24 84 76 271 279),
(93,cB "is_whole" 293 17 1 88 297),
(94,fo (top 10) "is_whole" "switchkinds.wholes" 287 93),
(100,cB "is_whole_below" 300 19 2 95 305),
(101,fo (top 11) "is_whole_below" "switchkinds.wholes" 287 100),
(105,cA "are_whole_below" 308 21 2 102 311),
(106,fo (top 12) "are_whole_below" "switchkinds.wholes" 287 105),
(112,cB "is_many" 314 23 1 107 318),
(113,fo (top 13) "is_many" "switchkinds.wholes" 287 112),
(119,cB "is_many_listed" 321 25 1 114 325),
(120,fo (top 14) "is_many_listed" "switchkinds.wholes" 287 119),
(126,cB "is_row" 328 27 3 121 334),
(127,fo (top 15) "is_row" "switchkinds.wholes" 287 126),
(133,cB "all_rows" 337 29 1 128 345),
(134,fo (top 16) "all_rows" "switchkinds.wholes" 287 133),
(140,cB "how_many_settings" 348 38 1 135 352),
(141,fo (top 17) "how_many_settings" "switchkinds.wholes" 287 140),
(145,cA "setting_at" 355 40 2 142 358),
(146,fo (top 18) "setting_at" "switchkinds.wholes" 287 145),
(150,cA "number_of" 361 42 1 147 364),
(151,fo (top 19) "number_of" "switchkinds.wholes" 287 150),
(155,cA "all_settings" 367 44 1 152 370),
(156,fo (top 20) "all_settings" "switchkinds.wholes" 287 155),
(162,cB "how_many_ones" 373 46 1 157 377),
(163,fo (top 21) "how_many_ones" "switchkinds.wholes" 287 162),
(169,cB "is_switch" 382 49 1 164 386),
(170,fo (top 23) "is_switch" "switchkinds.switches" 380 169),
(176,cB "check_switch" 389 53 1 171 393),
(177,fo (top 24) "check_switch" "switchkinds.switches" 380 176),
(183,cB "check_alike" 396 56 2 178 401),
(184,fo (top 25) "check_alike" "switchkinds.switches" 380 183),
(190,cB "check_many" 404 61 1 185 408),
(191,fo (top 26) "check_many" "switchkinds.switches" 380 190),
(197,cB "check_name" 411 64 2 192 416),
(198,fo (top 27) "check_name" "switchkinds.switches" 380 197),
(202,cA "ones" 419 67 1 199 422),
(203,fo (top 28) "ones" "switchkinds.switches" 380 202),
(207,cA "odd_within" 427 71 2 204 430),
(208,fo (top 30) "odd_within" "switchkinds.products" 425 207),
(214,cB "products" 433 78 1 209 438),
(215,fo (top 31) "products" "switchkinds.products" 425 214),
(219,cA "degree" 441 81 1 216 444),
(220,fo (top 32) "degree" "switchkinds.products" 425 219),
(226,cB "is_order" 449 84 2 221 454),
(227,fo (top 34) "is_order" "switchkinds.moves" 447 226),
(233,cB "is_move" 457 86 2 228 462),
(234,fo (top 35) "is_move" "switchkinds.moves" 447 233),
(240,cB "check_move" 465 90 2 235 470),
(241,fo (top 36) "check_move" "switchkinds.moves" 447 240),
(247,cB "names_of" 473 93 1 242 477),
(248,fo (top 37) "names_of" "switchkinds.moves" 447 247),
(252,cA "led" 480 98 2 249 483),
(253,fo (top 38) "led" "switchkinds.moves" 447 252),
(257,cA "moved" 486 100 2 254 489),
(258,fo (top 39) "moved" "switchkinds.moves" 447 257),
(264,cB "still" 492 106 1 259 496),
(265,fo (top 40) "still" "switchkinds.moves" 447 264),
(269,cA "behind" 499 109 2 266 502),
(270,fo (top 41) "behind" "switchkinds.moves" 447 269),
(274,cA "back" 505 115 1 271 508),
(275,fo (top 42) "back" "switchkinds.moves" 447 274),
(279,cA "all_orders" 511 119 1 276 514),
(280,fo (top 43) "all_orders" "switchkinds.moves" 447 279),
(286,cB "all_moves" 517 127 1 281 524),
(287,fo (top 44) "all_moves" "switchkinds.moves" 447 286),
(291,cA "how_much" 529 137 2 288 532),
(292,fo (top 46) "how_much" "switchkinds.hanging" 527 291),
(296,cA "needed" 535 142 1 293 538),
(297,fo (top 47) "needed" "switchkinds.hanging" 527 296),
(301,cA "marks" 541 145 1 298 544),
(302,fo (top 48) "marks" "switchkinds.hanging" 527 301),
(308,cB "check_listed" 549 150 1 303 553),
(309,fo (top 50) "check_listed" "switchkinds.kinds" 547 308),
(315,cB "check_one" 556 153 1 310 560),
(316,fo (top 51) "check_one" "switchkinds.kinds" 547 315),
(322,cB "check_two" 563 156 2 317 568),
(323,fo (top 52) "check_two" "switchkinds.kinds" 547 322),
(327,cA "all_led" 571 159 1 324 574),
(328,fo (top 53) "all_led" "switchkinds.kinds" 547 327),
(334,cB "least_form" 577 161 1 329 581),
(335,fo (top 54) "least_form" "switchkinds.kinds" 547 334),
(341,cB "are_kin" 584 164 2 336 589),
(342,fo (top 55) "are_kin" "switchkinds.kinds" 547 341),
(346,cA "summed" 594 168 1 343 597),
(347,fo (top 57) "summed" "switchkinds.sums" 592 346),
(351,cA "sums" 600 175 1 348 603),
(352,fo (top 58) "sums" "switchkinds.sums" 592 351),
(358,cB "by_weights" 606 178 1 353 613),
(359,fo (top 59) "by_weights" "switchkinds.sums" 592 358),
(363,cA "sum_of_names" 616 184 3 360 619),
(364,fo (top 60) "sum_of_names" "switchkinds.sums" 592 363),
(368,cA "nearest" 622 187 1 365 625),
(369,fo (top 61) "nearest" "switchkinds.sums" 592 368),
(375,cB "how_far" 628 194 1 370 632),
(376,fo (top 62) "how_far" "switchkinds.sums" 592 375),
(380,cA "is_flattest" 635 196 1 377 638),
(381,fo (top 63) "is_flattest" "switchkinds.sums" 592 380),
(382,{ cls:= .type "tuple",data:= .seq #[.int 0 643, .int 1 644, .none] 0 }),
(388,cB "is_part" 646 201 1 383 650),
(389,fo (top 66) "is_part" "switchkinds.terms" 641 388),
(393,cA "is_term" 653 203 2 390 656),
(394,fo (top 67) "is_term" "switchkinds.terms" 641 393),
(400,cB "check_term" 659 207 2 395 664),
(401,fo (top 68) "check_term" "switchkinds.terms" 641 400),
(405,cA "held_at" 667 210 1 402 670),
(406,fo (top 69) "held_at" "switchkinds.terms" 641 405),
(410,cA "all_terms" 673 220 1 407 676),
(411,fo (top 70) "all_terms" "switchkinds.terms" 641 410),
(415,cA "widened" 679 228 1 412 682),
(416,fo (top 71) "widened" "switchkinds.terms" 641 415),
(420,cA "primes" 685 230 1 417 688),
(421,fo (top 72) "primes" "switchkinds.terms" 641 420),
(425,cA "essentials" 691 237 1 422 694),
(426,fo (top 73) "essentials" "switchkinds.terms" 641 425),
(432,cB "_law_cell" 699 245 2 427 704),
(433,fo (top 75) "_law_cell" "law_switchkinds_k79_whole_kin_measured" 697 432),
(439,cB "_law_pick" 707 251 3 434 714),
(440,fo (top 76) "_law_pick" "law_switchkinds_k79_whole_kin_measured" 697 439),
(444,cA "_law_setting" 717 254 2 441 720),
(445,fo (top 77) "_law_setting" "law_switchkinds_k79_whole_kin_measured" 697 444),
(449,cA "_law_odd" 723 256 2 446 726),
(450,fo (top 78) "_law_odd" "law_switchkinds_k79_whole_kin_measured" 697 449),
(454,cA "_law_switch" 729 258 3 451 732),
(455,fo (top 79) "_law_switch" "law_switchkinds_k79_whole_kin_measured" 697 454),
(459,cA "law" 735 274 1 456 738),
(460,fo (top 80) "law" "law_switchkinds_k79_whole_kin_measured" 697 459)]
noncomputable def kas:List Addr:=[3,23,24,25,36,37,48,49,60,61,72,73,84,85,93,94,100,101,105,106,112,113,119,120,126,127,133,134,140,141,145,146,150,151,155,156,162,163,169,170,176,177,183,184,190,191,197,198,202,203,207,208,214,215,219,220,226,227,233,234,240,241,247,248,252,253,257,258,264,265,269,270,274,275,279,280,286,287,291,292,296,297,301,302,308,309,315,316,322,323,327,328,334,335,341,342,346,347,351,352,358,359,363,364,368,369,375,376,380,381,382,388,389,393,394,400,401,405,406,410,411,415,416,420,421,425,426,432,433,439,440,444,445,449,450,454,455,459,460]
noncomputable def kq:Program:={ PySem.Challenge.pw_switchkinds_k79_whole_kin_measured with main:={ PySem.Challenge.pw_switchkinds_k79_whole_kin_measured.main with body:=[top 1,top 2,top 3,top 4,top 5,top 6,top 8,top 9,top 10,top 11,top 12,top 13,top 14,top 15,top 16,top 17,top 18,top 19,top 20,top 21,top 23,top 24,top 25,top 26,top 27,top 28,top 30,top 31,top 32,top 34,top 35,top 36,top 37,top 38,top 39,top 40,top 41,top 42,top 43,top 44,top 46,top 47,top 48,top 50,top 51,top 52,top 53,top 54,top 55,top 57,top 58,top 59,top 60,top 61,top 62,top 63,top 65,top 66,top 67,top 68,top 69,top 70,top 71,top 72,top 73,top 75,top 76,top 77,top 78,top 79,top 80] } }
theorem lk1 (w:World):(PySem.W.openEnds treeTable PySem.Challenge.rw_switchkinds_k79_whole_kin_measured.row.prog w 6330).map (fun s=>PyProof.Rows.seen ((PyProof.Rows.recsOf kq).map (·.name)) (PyProof.Rows.ownsOf kq) [] { s with gens:= #[] })=some (PyProof.Rows.expectedOf kq):=by kernel_rfl
theorem lk2 (w:World):(PySem.W.openEnds treeTable PySem.Challenge.rw_switchkinds_k79_whole_kin_measured.row.prog w 6330).map (fun s=>(s.heap.bltView,s.heap.keysOk (PySem.W.looseW kq []) ((PyProof.Rows.recsOf kq).map (·.name)) ((PyProof.Rows.litsOf kq).map (·.1)) ((PyProof.Rows.clssOf kq (PySem.W.looseW kq [])).map (·.name))&&s.heap.accountedOkI (importedModules PySem.Challenge.rw_switchkinds_k79_whole_kin_measured.row.prog.main.body)&&s.heap.isNs mainGlobals&&s.heap.isNs builtinsNs&&PyProof.Rows.tablesOk kq s.heap&&(fun s=>PySem.W.xlAt kq [] s&&PySem.W.recOk (PySem.W.RowW.records (PySem.W.OpenRow.toRowW PySem.Challenge.rw_switchkinds_k79_whole_kin_measured.row)) s) s&&(if true then s.gens.size==0 else !leftWithCleanup s.gens)))=some (bltViewBooted,true):=by kernel_rfl
theorem lk3 (w:World):(PySem.W.openEnds treeTable PySem.Challenge.rw_switchkinds_k79_whole_kin_measured.row.prog w 6330).map (fun s=>PyProof.Rows.tabsOk kq s)=some (true):=by kernel_rfl
theorem lk4 (w:World):(PySem.W.openEnds treeTable PySem.Challenge.rw_switchkinds_k79_whole_kin_measured.row.prog w 6330).map (fun s=>PyProof.Rows.plainSeenE kq (PySem.W.looseW kq []) s)=some (PyProof.Rows.plainGoodE kq (PySem.W.looseW kq [])):=by kernel_rfl
theorem lk5 (w:World):(PySem.W.openEnds treeTable PySem.Challenge.rw_switchkinds_k79_whole_kin_measured.row.prog w 6330).map (fun s=>PySem.W.Hook.obs (PySem.W.kHook kK kas (fun _=>by kernel_rfl)) s)=some (PySem.W.Hook.val (PySem.W.kHook kK kas (fun _=>by kernel_rfl)) w):=by kernel_rfl
theorem lk6 (w:World):(PySem.W.openEnds treeTable PySem.Challenge.rw_switchkinds_k79_whole_kin_measured.row.prog w 6330).map (fun s=>(PyProof.Rows.plainSeenD kq [] s,PySem.W.wideSeen kq s,PySem.W.clsSeenW kq [] s))=some (PyProof.Rows.plainGoodD kq [],PySem.W.wideGood kq,PySem.W.clsGoodW kq []):=by kernel_rfl
theorem lk7 (w:World):(PySem.W.openEnds treeTable PySem.Challenge.rw_switchkinds_k79_whole_kin_measured.row.prog w 6330).map (fun s=>pinSeenD kq (PyProof.Rows.drecsOf kq) s)=some (pinGoodD (PyProof.Rows.drecsOf kq)):=by kernel_rfl
theorem map7 {α β1 β2 β3 β4 β5 β6 β7:Type} {o:Option α} {f1:α→β1} {f2:α→β2} {f3:α→β3} {f4:α→β4} {f5:α→β5} {f6:α→β6} {f7:α→β7} {b1:β1} {b2:β2} {b3:β3} {b4:β4} {b5:β5} {b6:β6} {b7:β7} (h1:o.map f1=some b1) (h2:o.map f2=some b2) (h3:o.map f3=some b3) (h4:o.map f4=some b4) (h5:o.map f5=some b5) (h6:o.map f6=some b6) (h7:o.map f7=some b7): ∃ s,o=some s∧f1 s=b1∧f2 s=b2∧f3 s=b3∧f4 s=b4∧f5 s=b5∧f6 s=b6∧f7 s=b7:=by
 cases o with
 | none=>cases h1
 | some s=>exact⟨s,rfl,Option.some.inj h1,Option.some.inj h2,Option.some.inj h3,Option.some.inj h4,Option.some.inj h5,Option.some.inj h6,Option.some.inj h7⟩
theorem left:PySem.W.LeftO PySem.Challenge.rw_switchkinds_k79_whole_kin_measured.row.prog kq [] (fun s=>PySem.W.xlAt kq [] s&&PySem.W.recOk (PySem.W.RowW.records (PySem.W.OpenRow.toRowW PySem.Challenge.rw_switchkinds_k79_whole_kin_measured.row)) s) (PySem.W.Hook.obs (PySem.W.kHook kK kas (fun _=>by kernel_rfl))) (PySem.W.Hook.val (PySem.W.kHook kK kas (fun _=>by kernel_rfl))) 6330:=fun w=>by
 obtain⟨s,hs,e1,e2,e3,e4,e5,e6,e7⟩:=map7 (lk1 w) (lk2 w) (lk3 w) (lk4 w) (lk5 w) (lk6 w) (lk7 w)
 rw [hs]
 refine congrArg some (Prod.ext (Prod.ext e1 (Prod.ext (congrArg (·.1) e2) (Prod.ext (congrArg (·.2) e2) (Prod.ext e3 (Prod.ext e7 (Prod.ext e4 (Prod.ext (congrArg (·.1) e6) (Prod.ext (congrArg (·.2.1) e6) (congrArg (·.2.2) e6))))))))) e5)
end SK.k79
namespace L2
open PySem PySem.Spec PyProof.Rows
abbrev Key:=Sum Int Str
noncomputable def keyIs:Key→Value→Bool
 | .inl k,v=>Value.isInt k v
 | .inr x,v=>Value.isStrOf x v
noncomputable def keyH (w:World):Key→Int
 | .inl k=>hashInt k
 | .inr x=>hashStr w x
theorem aN: ∀ {k:Key} {v:Value},keyIs k v=true→(∃ i t,k=Sum.inl i∧v=Value.int i t)∨(∃ x t,k=Sum.inr x∧v=Value.str x t)
 | .inl i,v,h=>by
  obtain⟨t,e⟩:=Value.isInt_shape (k:=i) (v:=v) h
  exact .inl ⟨i,t,rfl,e⟩
 | .inr x,v,h=>by
  obtain⟨t,e⟩:=Value.isStrOf_shape (x:=x) (v:=v) h
  exact .inr ⟨x,t,rfl,e⟩
theorem zM (a b:Int):decide ((Sum.inl a:Key)=Sum.inl b)=(a==b):=by
 by_cases e:a=b
 ·subst e;simp
 ·have h: ¬ (Sum.inl a:Key)=Sum.inl b:=fun q=>e (Sum.inl.inj q)
  rw [decide_eq_false h]
  exact(beq_eq_false_iff_ne.mpr e).symm
theorem zN (a b:Str):decide ((Sum.inr a:Key)=Sum.inr b)=decide (a=b):=by
 by_cases e:a=b
 ·subst e;simp
 ·have h: ¬ (Sum.inr a:Key)=Sum.inr b:=fun q=>e (Sum.inr.inj q)
  rw [decide_eq_false h,decide_eq_false e]
theorem zO (a:Int) (b:Str):decide ((Sum.inl a:Key)=Sum.inr b)=false:=decide_eq_false (fun q=>nomatch q)
theorem zP (a:Str) (b:Int):decide ((Sum.inr a:Key)=Sum.inl b)=false:=decide_eq_false (fun q=>nomatch q)
noncomputable def mixKind (prog:Program) (w:World):PySem.KeyKind prog w Key where
 is:=keyIs
 hash:=keyH w
 inj:=fun v a b ha hb=>by
  rcases aN ha with ⟨i,t,rfl,rfl⟩ | ⟨x,t,rfl,rfl⟩
  ·rcases aN hb with ⟨j,u,rfl,e⟩ | ⟨y,u,rfl,e⟩
   ·injection e with e1 _;rw [e1]
   ·exact nomatch e
  ·rcases aN hb with ⟨j,u,rfl,e⟩ | ⟨y,u,rfl,e⟩
   ·exact nomatch e
   ·injection e with e1 _;rw [e1]
 byValue:=fun k v h=>by
  rcases aN h with ⟨i,t,rfl,rfl⟩ | ⟨x,t,rfl,rfl⟩<;>rfl
 pyHash:=fun hv h=>by
  rcases aN hv with ⟨i,t,rfl,rfl⟩ | ⟨x,t,rfl,rfl⟩
  ·exact wpAny_pyHash_int h
  ·exact wpAny_pyHash_str h
 eqBool:=fun hu hv h=>by
  rcases aN hu with ⟨i,t,rfl,rfl⟩ | ⟨x,t,rfl,rfl⟩
  ·rcases aN hv with ⟨j,u,rfl,rfl⟩ | ⟨y,u,rfl,rfl⟩
   ·rw [zM] at h;exact wpAny_eqBool_int h
   ·rw [zO] at h;exact SeqAt.EqAt.int_str i t y u _ _ _ _ h
  ·rcases aN hv with ⟨j,u,rfl,rfl⟩ | ⟨y,u,rfl,rfl⟩
   ·rw [zP] at h;exact SeqAt.EqAt.str_int x t j u _ _ _ _ h
   ·rw [zN] at h;exact wpAny_eqBool_str h
 «strs»:=fun k x t v h=>by
  rcases aN h with ⟨i,u,rfl,e⟩ | ⟨y,u,rfl,e⟩
  ·exact nomatch e
  ·injection e with e1 _
   subst e1
   cases v<;>rfl
inductive V where
 | non | bl (b:Bool) | int (i:Int) | str (x:Str) | byt (b:Array UInt8) | flt (b:UInt64) | ref (a:Addr) | ty (n:String)
 deriving DecidableEq
noncomputable def RelV:V→Value→Prop
 | .non,u=>u=Value.none
 | .bl b,u=>u=Value.bool b
 | .int i,u=> ∃ t,u=Value.int i t
 | .str x,u=> ∃ t,u=Value.str x t
 | .byt b,u=> ∃ t,u=Value.bytes b t
 | .flt b,u=> ∃ t,u=Value.float b t
 | .ref a,u=>u=Value.ref a
 | .ty n,u=>u=Value.type n
noncomputable abbrev Vals:List V→List Value→Prop:=Paired RelV
theorem Vals.length {xs:List V} {us:List Value} (r:Vals xs us):xs.length=us.length:=Paired.length r
theorem Vals.get: ∀ {xs:List V} {us:List Value} {i:Nat} {x:V},Vals xs us→xs[i]? =some x→ ∃ u,us[i]? =some u∧RelV x u
 | _,_,_,_, .nil,e=>by simp at e
 | _,_,0,_, .cons r _,e=>by simp at e;subst e;exact⟨_,rfl,r⟩
 | _,_,i+1,x, .cons _ t,e=>by
  obtain⟨u,h1,h2⟩:=Vals.get (i:=i) (x:=x) t (by simpa using e)
  exact⟨u,by simpa using h1,h2⟩
theorem Vals.set {x:V} {u:Value} (r:RelV x u): ∀ {xs:List V} {us:List Value} (i:Nat),Vals xs us→Vals (xs.set i x) (us.set i u)
 | _,_,_, .nil=> .nil
 | _,_,0, .cons _ t=> .cons r t
 | _,_,i+1, .cons q t=> .cons q (Vals.set r i t)
theorem Vals.append: ∀ {xs ys:List V} {us ws:List Value},Vals xs us→Vals ys ws→Vals (xs++ys) (us++ws)
 | _,_,_,_, .nil,s=>s
 | _,_,_,_, .cons r t,s=> .cons r (Vals.append t s)
theorem Vals.take: ∀ {xs:List V} {us:List Value} (n:Nat),Vals xs us→Vals (xs.take n) (us.take n)
 | _,_,0,_=> .nil
 | _,_,_+1, .nil=> .nil
 | _,_,n+1, .cons r t=> .cons r (Vals.take n t)
theorem Vals.drop: ∀ {xs:List V} {us:List Value} (n:Nat),Vals xs us→Vals (xs.drop n) (us.drop n)
 | _,_,0,r=>r
 | _,_,_+1, .nil=> .nil
 | _,_,n+1, .cons _ t=>Vals.drop n t
noncomputable def RelO:Option V→Option Value→Prop
 | some v,some u=>RelV v u
 | none,none=>True
 | _,_=>False
noncomputable def KV {κ:Type}:List (κ×V)→List (κ×Value)→Prop:=Paired fun(p:κ×V) (q:κ×Value)=>p.1=q.1∧RelV p.2 q.2
noncomputable def kV:Key→V
 | .inl i=> .int i
 | .inr x=> .str x
inductive HO where
 /-- a list -/
 | lst (xs:List V)
 /-- a tuple (never changes) -/
 | tup (xs:List V)
 /-- a dict whose keys are ints and texts;one whose keys are tuples of ints and texts (the empty one is both) -/
 | dK (kvs:List (Key×V)) | dT (kvs:List (List Key×V))
 /-- a set of ints:its members,its size -/
 | set (S:Int→Bool) (n:Nat)
 /-- an instance of the class at C,its dict at dx,its attributes -/
 | ins (C dx:Addr) (fs:List (Str×V))
 /-- the dict of the instance at x -/
 | own (x:Addr)
 /-- the dict of an exception -/
 | xd (fs:List (Str×V))
 /-- a bound method,f of x -/
 | met (f x:Addr)
 /-- a range object lo,lo+1, .. below hi -/
 | rng (lo hi:Int)
 /-- a thing that is known to the object (the script;a dict while a loop walks it):read,never written while it is so -/
 | frz (o:Obj) (u:HO)
 /-- a code object's table -/
 | tbl (ps:Array Value)
 /-- any other thing,by what is true of its one object (a def of one's own:SetO a S n:=HO.ext fun h=> ..) -/
 | ext (φ:Heap→Prop)
abbrev Hp:=Addr→Option HO
noncomputable def upd (H:Hp) (a:Addr) (o:HO):Hp:=fun b=>if b=a then some o else H b
theorem aH {H:Hp} {a:Addr} {o:HO}:upd H a o a=some o:=by unfold upd;rw [if_pos rfl]
theorem aF {H:Hp} {a b:Addr} {o:HO} (h:b≠a):upd H a o b=H b:=by unfold upd;rw [if_neg h]
theorem aY {H:Hp} {a b:Addr} {o:HO} (h:H a=some o) (h':H b=none):a≠b:=by
 intro e;subst e;rw [h] at h';cases h'
def NoDict (h:Heap) (a:Addr):Prop:= ∃ o,h.get? a=some o∧o.dict=none
section
variable (P:Program) (w:World)
noncomputable def ObjOk (H:Hp) (h:Heap) (a:Addr):HO→Prop
 | .lst xs=>xs.length≤sizeLine∧ ∃ (its:List Value) (n:Nat),Vals xs its∧h.get? a=some { cls:= .type "list",data:= .seq its.toArray n }
 | .tup xs=>xs.length≤sizeLine∧ ∃ its:List Value,Vals xs its∧IsTup h a its.toArray∧NoDict h a
 | .dK kvs=>kvs.length≤sizeLine∧(a==sysModules)=false∧ ∃ vs,KV kvs vs∧h.DictOf (mixKind P w) a vs
 | .dT kvs=>kvs.length≤sizeLine∧(a==sysModules)=false∧ ∃ xs:List (List Key×Addr×Value),
   Paired (fun(p:List Key×V) (q:List Key×Addr×Value)=>p.1=q.1∧H q.2.1=some (.tup (p.1.map kV))∧RelV p.2 q.2.2) kvs xs∧
   ∃ o es ep,h.get? a=some o∧o.ExactDict∧o.data= .dict es ep∧es.toList=xs.map (entryOfKey (tupleKind (mixKind P w)))∧(xs.map (·.1)).Nodup
 | .set S n=>h.SetOf (intKind P w) a S n
 | .ins C dx fs=>H dx=some (.own a)∧fs.length≤1000∧dx≠a∧h.get? a=some (PySem.W.instObj C dx)∧
   ∃ mA,h.Ns1 dx mA∧(∀ f,RelO (fs.lookup f) (mA f))∧PySem.Within mA (fs.map (·.1))
 | .own _=> ∃ o,h.get? a=some o
 | .xd fs=> ∃ mA,h.Ns1 a mA∧ ∀ f,RelO (fs.lookup f) (mA f)
 | .rng lo hi=> ∃ t u v,h.get? a=some { cls:= .type "range",data:= .fields #[.int lo t, .int hi u, .int 1 v] }
 | .frz o u=>h.get? a=some o∧ObjOk H h a u
 | .tbl ps=>h.get? a=some { cls:= .none,data:= .fields ps }
 | .met f x=>h.get? a=some (PySem.W.methodObj (.ref f) (.ref x))
 | .ext φ=>φ h∧(∃ o,h.get? a=some o)∧ ∀ h1 h2:Heap,φ h1→(∀ o,h1.get? a=some o→h2.get? a=some o)→φ h2
def HOk (H:Hp) (h:Heap):Prop:= ∀ a o,H a=some o→ObjOk P w H h a o
end
section
variable {P:Program} {w:World} {H H':Hp} {h h':Heap} {a:Addr} {o:HO}
theorem ObjOk.lt (x:ObjOk P w H h a o):a<h.objs.size:=by
 cases o with
 | lst xs=>obtain⟨_,_,_,_,e⟩:=x;exact Heap.lt_size e
 | tup xs=>obtain⟨_,_,_,p,_⟩:=x;exact p.lt
 | dK kvs=>obtain⟨_,_,_,_,o,_,_,e,_⟩:=x;exact Heap.lt_size e
 | dT kvs=>obtain⟨_,_,_,_,o,_,_,e,_⟩:=x;exact Heap.lt_size e
 | set S n=>obtain⟨o,_,_,_,e,_⟩:=x;exact Heap.lt_size e
 | ins C dx fs=>obtain⟨_,_,_,e,_⟩:=x;exact Heap.lt_size e
 | own y=>obtain⟨_,e⟩:=x;exact Heap.lt_size e
 | xd fs=>obtain⟨_,⟨_,_,_,e,_⟩,_⟩:=x;exact Heap.lt_size e
 | rng lo hi=>obtain⟨_,_,_,e⟩:=x;exact Heap.lt_size e
 | frz ob u=>obtain⟨e,_⟩:=x;exact Heap.lt_size e
 | tbl ps=>exact Heap.lt_size (show h.get? a=some _ from x)
 | met f y=>exact Heap.lt_size (show h.get? a=some _ from x)
 | ext φ=>obtain⟨_,⟨_,e⟩,_⟩:=x;exact Heap.lt_size e
theorem Paired.mapP {α β:Type} {F G:α→β→Prop}: ∀ {l₁:List α} {l₂:List β},Paired F l₁ l₂→(∀ a b,F a b→G a b)→Paired G l₁ l₂
 | _,_, .nil,_=> .nil
 | _,_, .cons r t,f=> .cons (f _ _ r) (Paired.mapP t f)
theorem ObjOk.stay (x:ObjOk P w H h a o) (k: ∀ b u,(b=a∨H b=some (.own a))→h.get? b=some u→h'.get? b=some u)
  (ho: ∀ b,H b=some (.own a)→H' b=some (.own a)) (ht: ∀ b xs,H b=some (.tup xs)→H' b=some (.tup xs)):ObjOk P w H' h' a o:=by
 induction o with
 | lst xs=>obtain⟨z,its,n,r,e⟩:=x;exact⟨z,its,n,r,k _ _ (.inl rfl) e⟩
 | tup xs=>obtain⟨z,its,r,⟨ob,e,c⟩,od,e',d⟩:=x;exact⟨z,its,r,⟨ob,k _ _ (.inl rfl) e,c⟩,od,k _ _ (.inl rfl) e',d⟩
 | dK kvs=>obtain⟨z,y,vs,r,ob,es,ep,e,c⟩:=x;exact⟨z,y,vs,r,ob,es,ep,k _ _ (.inl rfl) e,c⟩
 | dT kvs=>
  obtain⟨z,y,xs,r,ob,es,ep,e,c⟩:=x
  exact⟨z,y,xs,Paired.mapP r fun p q z=>⟨z.1,ht _ _ z.2.1,z.2.2⟩,ob,es,ep,k _ _ (.inl rfl) e,c⟩
 | set S n=>obtain⟨ob,es,ep,t,e,c⟩:=x;exact⟨ob,es,ep,t,k _ _ (.inl rfl) e,c⟩
 | ins C dx fs=>
  obtain⟨d,z,ne,e,mA,⟨od,es,ep,e2,c⟩,r⟩:=x
  exact⟨ho _ d,z,ne,k _ _ (.inl rfl) e,mA,⟨od,es,ep,k _ _ (.inr d) e2,c⟩,r⟩
 | own y=>obtain⟨ob,e⟩:=x;exact⟨ob,k _ _ (.inl rfl) e⟩
 | xd fs=>obtain⟨mA,⟨od,es,ep,e,c⟩,r⟩:=x;exact⟨mA,⟨od,es,ep,k _ _ (.inl rfl) e,c⟩,r⟩
 | rng lo hi=>obtain⟨t,u,v,e⟩:=x;exact⟨t,u,v,k _ _ (.inl rfl) e⟩
 | frz ob u ih=>obtain⟨e,q⟩:=x;exact⟨k _ _ (.inl rfl) e,ih q⟩
 | tbl ps=>
  have e:h.get? a=some { cls:= .none,data:= .fields ps }:=x
  show h'.get? a=some { cls:= .none,data:= .fields ps }
  exact k a _ (.inl rfl) e
 | met f y=>
  have e:h.get? a=some (PySem.W.methodObj (.ref f) (.ref y)):=x
  show h'.get? a=some (PySem.W.methodObj (.ref f) (.ref y))
  exact k a _ (.inl rfl) e
 | ext φ=>obtain⟨p,⟨o,e⟩,st⟩:=x;exact⟨st _ _ p fun o q=>k _ _ (.inl rfl) q,⟨o,k _ _ (.inl rfl) e⟩,st⟩
theorem HOk.lt (x:HOk P w H h) (e:H a=some o):a<h.objs.size:=(x a o e).lt
theorem HOk.fresh (x:HOk P w H h) (e:h.objs.size≤a):H a=none:=by
 cases q:H a with
 | none=>rfl
 | some u=>exact absurd (Nat.lt_of_lt_of_le (x.lt q) e) (Nat.lt_irrefl _)
theorem HOk.kept (x:HOk P w H h) (k: ∀ b u,h.get? b=some u→h'.get? b=some u):HOk P w H h':=fun a o e=>
 (x a o e).stay (fun b u _ q=>k b u q) (fun _ q=>q) fun _ _ q=>q
theorem HOk.laid (x:HOk P w H h) (k: ∀ b u,h.get? b=some u→h'.get? b=some u) (hp:h.objs.size≤a) (new:ObjOk P w (upd H a o) h' a o):HOk P w (upd H a o) h':=fun b u e=>by
 have hn:=x.fresh hp
 by_cases hb:b=a
 ·subst hb;rw [aH] at e;cases e;exact new
 ·rw [aF hb] at e
  exact(x b u e).stay (fun c v _ q=>k c v q) (fun c q=>by rw [aF (aY q hn)];exact q) fun c xs q=>by rw [aF (aY q hn)];exact q
end
def Rd (H:Hp) (a:Addr) (u:HO):Prop:=H a=some u∨ ∃ o,H a=some (.frz o u)
theorem Rd.ok {P:Program} {w:World} {H:Hp} {h:Heap} {a:Addr} {u:HO} (r:Rd H a u) (x:HOk P w H h):ObjOk P w H h a u:=by
 rcases r with r | ⟨o,r⟩
 ·exact x a u r
 ·obtain⟨_,q⟩:=x a _ r
  exact q
noncomputable def Mut:Option HO→Prop
 | some (.lst _)=>True
 | some (.dK _)=>True
 | some (.dT _)=>True
 | some (.set _ _)=>True
 | some (.ins _ _ _)=>True
 | some (.ext _)=>True
 | _=>False
section
variable {P:Program} {w:World} {H:Hp} {h h':Heap} {x e:Addr} {o':HO}
theorem HOk.write (ok:HOk P w H h) (mu:Mut (H x)) (he:e=x∨H e=some (.own x)) (k: ∀ b u,b≠e→h.get? b=some u→h'.get? b=some u) (heo: ∃ u,h'.get? e=some u)
  (new:ObjOk P w (upd H x o') h' x o'):HOk P w (upd H x o') h':=fun b u q=>by
 have nown: ∀ c y,H c=some (.own y)→c≠x:=fun c y r z=>by subst z;rw [r] at mu;exact mu
 have ntup: ∀ c xs,H c=some (.tup xs)→c≠x:=fun c xs r z=>by subst z;rw [r] at mu;exact mu
 by_cases hb:b=x
 ·subst hb;rw [aH] at q;cases q;exact new
 ·rw [aF hb] at q
  by_cases hbe:b=e
  ·have q':H b=some (.own x):=by
    rcases he with z | z
    ·exact absurd (hbe.trans z) hb
    ·rw [hbe];exact z
   rw [q] at q';cases q'
   obtain⟨v,hv⟩:=heo
   exact⟨v,by rw [hbe];exact hv⟩
  ·refine(ok b u q).stay (fun c v hc r=>k c v ?_ r) (fun c r=>by rw [aF (nown c b r)];exact r) fun c xs r=>by rw [aF (ntup c xs r)];exact r
   rcases hc with rfl | hc
   ·exact hbe
   ·rintro rfl
    rcases he with z | z
    ·exact nown c b hc z
    ·rw [hc] at z;cases z;exact hb rfl
end
structure Un (fs ex:List Addr) (H H':Hp) (h h':Heap):Prop where
 keep: ∀ b o,h.get? b=some o→H b=none→b∉fs→b∉ex→h'.get? b=some o
 slot: ∀ b o,h.get? b=some o→H b=none→b∈fs→b∉ex→ ∃ sl,h'.get? b=some { o with slots:=sl }
 free: ∀ b o,h.get? b=some o→H b=none→b∉ex→H' b=none
 there: ∀ b o,h.get? b=some o→b∉ex→ ∃ o',h'.get? b=some o'
 tups: ∀ b xs,H b=some (.tup xs)→H' b=some (.tup xs)
 frzs: ∀ b o u,H b=some (.frz o u)→H' b=some (.frz o u)
 tbls: ∀ b ps,H b=some (.tbl ps)→ ∃ more,H' b=some (.tbl (ps++more))
section
variable {fs fs' ex ex':List Addr} {H H1 H2:Hp} {h h1 h2 h':Heap} {a x e:Addr} {o:HO}
theorem Un.any (u:Un fs ex H H1 h h1) {b:Addr} {ob:Obj} (q:h.get? b=some ob) (n:H b=none) (hx:b∉ex): ∃ sl,h1.get? b=some { ob with slots:=sl }:=by
 by_cases hb:b∈fs
 ·exact u.slot b ob q n hb hx
 ·exact⟨ob.slots,u.keep b ob q n hb hx⟩
theorem Un.kept (k: ∀ b u,h.get? b=some u→h'.get? b=some u):Un fs ex H H h h':=
 ⟨fun b ob q _ _ _=>k b ob q,fun b ob q _ _ _=>⟨ob.slots,k b ob q⟩,fun _ _ _ n _=>n,fun b ob q _=>⟨ob,k b ob q⟩,fun _ _ q=>q,fun _ _ _ q=>q,fun _ ps q=>⟨#[],by rw [q];simp⟩⟩
theorem Un.refl:Un fs ex H H h h:=Un.kept fun _ _ q=>q
theorem Un.laid (k: ∀ b u,h.get? b=some u→h'.get? b=some u) (hp:h.objs.size≤a) (hn:H a=none):Un fs ex H (upd H a o) h h' where
 keep:=fun b u q _ _ _=>k b u q
 slot:=fun b u q _ _ _=>⟨u.slots,k b u q⟩
 free:=fun b u q n _=>by rw [aF (Nat.ne_of_lt (Nat.lt_of_lt_of_le (Heap.lt_size q) hp))];exact n
 there:=fun b u q _=>⟨u,k b u q⟩
 tups:=fun b xs q=>by rw [aF (aY q hn)];exact q
 frzs:=fun b u xs q=>by rw [aF (aY q hn)];exact q
 tbls:=fun b ps q=>⟨#[],by rw [aF (aY q hn),q];simp⟩
theorem Un.write (mu:Mut (H x)) (he:e=x∨H e=some (.own x)) (k: ∀ b u,b≠e→h.get? b=some u→h'.get? b=some u) (heo: ∃ u,h'.get? e=some u):Un fs ex H (upd H x o) h h':=by
 have hx: ∀ b,H b=none→b≠x:=fun b n z=>by subst z;rw [n] at mu;exact mu
 have hb: ∀ b,H b=none→b≠e:=fun b n z=>by
  subst z
  rcases he with r | r
  ·exact hx b n r
  ·rw [n] at r;cases r
 have hm: ∀ b u,H b=some u→ ¬ Mut (some u)→b≠x:=fun b u q nm z=>by subst z;rw [q] at mu;exact nm mu
 refine⟨fun b u q n _ _=>k b u (hb b n) q,fun b u q n _ _=>⟨u.slots,k b u (hb b n) q⟩,fun b u q n _=>by rw [aF (hx b n)];exact n,fun b u q _=> ?_,
  fun b xs q=>by rw [aF (hm b _ q fun z=>z)];exact q,fun b u xs q=>by rw [aF (hm b _ q fun z=>z)];exact q,fun b ps q=>⟨#[],by rw [aF (hm b _ q fun z=>z),q];simp⟩⟩
 by_cases hbe:b=e
 ·subst hbe;exact heo
 ·exact⟨u,k b u hbe q⟩
end
noncomputable def trk (h:Heap) (H:Hp):List Addr:=(List.range h.objs.size).filter fun a=>(H a).isSome
noncomputable def hidT (h:Heap) (H:Hp):Heap:=PySem.W.hideAll h (trk h H)
theorem n9 (h:Heap) (H:Hp):(hidT h H).objs.size=h.objs.size:=PySem.W.hideAll_size _ _
theorem sD {h:Heap} {H:Hp} {b:Addr} {o:Obj} (e:h.get? b=some o) (n:H b=none):(hidT h H).get? b=some o:=
 PySem.W.hideAll_get _ e fun hm=>by
  have q:(H b).isSome=true:=(List.mem_filter.mp hm).2
  rw [n] at q;simp at q
theorem wG {h:Heap} {H:Hp} {b:Addr} {o:Obj} (e:(hidT h H).get? b=some o):h.get? b=some o∧H b=none:=by
 have e':h.get? b=some o:=PySem.W.of_hideAll (trk h H) e
 refine⟨e', ?_⟩
 cases q:H b with
 | none=>rfl
 | some x=>
  have hm:b∈trk h H:=List.mem_filter.mpr ⟨zPd (Heap.lt_size e'),by simp [q]⟩
  have z:(hidT h H).get? b=none:=PySem.W.hideAll_none (trk h H) hm
  rw [z] at e;cases e
noncomputable def allNews (g h:Heap) (L:Addr):List (Addr×Obj):=(List.range h.objs.size).filterMap fun a=>if a=L∨(g.get? a).isSome=true then none else(h.get? a).map fun o=>(a,o)
noncomputable def rest (g h:Heap) (L d:Addr):List (Addr×Obj):=(allNews g h L).filter fun p=>decide (p.1≠d)
structure Mod (K:PySem.W.Frag) (mg:Str→Option Value) (base:Heap):Prop where
 kin:K.In base
 glob:base.Ns mainGlobals mg
 blt: ∃ mb,base.Ns builtinsNs mb∧ ∀ x:Str,x≠"__name__"→mb x=bootBuiltins x
 nolimit:base.NoLimit
structure Cx where
 prog:Program
 w:World
 K:PySem.W.Frag
 mg:Str→Option Value
 base:Heap
 A:Around
 N:List Str
 s₀:Shared
 H₀:Hp
 env:Env
 outer:List Env
 stack:List Env
 ex:List Addr
 fn:Str→Bool
 calm:Bool
 pn:List (Addr×Obj)
 xe:Value→Shared→Prop
noncomputable def frs (l:List Env):List Addr:=l.filterMap (·.frame)
noncomputable abbrev Cx.fs (X:Cx):List Addr:=frs X.outer
def Vis (sc:Scope) (x:Str):Prop:=sc.names.lookup x=some .local∨sc.names.lookup x=some .cell∨sc.names.lookup x=some .free
def Loc (sc:Scope) (x:Str):Prop:=sc.names.lookup x=some .local∨sc.names.lookup x=some .cell
def Look (env:Env) (h:Heap) (m:Str→Option Value) (x:Str) (u:Value):Prop:=
 (env.kindOf x=some .local∧m x=some u)∨((env.kindOf x=some .cell∨env.kindOf x=some .free)∧ ∃ c,env.cells.lookup x=some c∧h.IsCell c (some u))
structure Cx.Ok (X:Cx):Prop where
 mod:Mod X.K X.mg X.base
 kind:X.env.scope.kind= .function
 glob:X.env.globals=mainGlobals
 blt:X.env.builtins=builtinsNs
 above:X.s₀.heap.objs.size≤X.env.locals
 inj: ∀ x y c,X.env.cells.lookup x=some c→X.env.cells.lookup y=some c→x=y
 has: ∀ x,(X.env.kindOf x=some .cell∨X.env.kindOf x=some .free)→ ∃ c,X.env.cells.lookup x=some c
 cab: ∀ x c,X.fn x=true→X.env.cells.lookup x=some c→X.s₀.heap.objs.size≤c
 hd:X.calm=true→X.A.handled=none
 frames:X.A.frames=some X.stack
 stk:X.stack=X.outer∨(X.stack=X.env::X.outer∧X.env.frame=some X.env.locals)
 exf: ∀ b∈X.ex,b≠X.env.locals∧ ∀ x c,X.env.cells.lookup x=some c→c≠b
 bs: ∀ b o,X.base.get? b=some o→X.s₀.heap.get? b=some o∧X.H₀ b=none
 bsz:X.base.objs.size≤X.s₀.heap.objs.size
 noex: ∀ b o,X.base.get? b=some o→b∉X.ex
 exfs: ∀ b∈X.ex,b∉X.fs
 funs:X.s₀.heap.FunFrames X.base X.outer
 frf: ∀ b∈X.fs,X.H₀ b=none
structure Inv (X:Cx) (pins:List (Addr×Obj)) (σ:List (Option V)) (H:Hp) (s:Shared):Prop where
 ok:X.Ok
 os:s.os=X.s₀.os
 bare:AllBare s.gens
 base:Un X.fs X.ex X.H₀ H X.s₀.heap s.heap
 loc: ∃ m,s.heap.Ns X.env.locals m∧ ∀ (i:Nat) (x:Str) (v:V),X.N[i]? =some x→σ[i]? =some (some v)→Vis X.env.scope x→ ∃ u,RelV v u∧Look X.env s.heap m x u
 cell: ∀ x c,X.env.cells.lookup x=some c→ ∃ v,s.heap.IsCell c v
 free:H X.env.locals=none
 freeC: ∀ x c,X.env.cells.lookup x=some c→H c=none
 pin: ∀ p∈X.pn++pins,s.heap.get? p.1=some p.2∧H p.1=none∧p.1≠X.env.locals∧p.1∉X.fs∧ ∀ v,p.2.data≠ .cell v
 hok:HOk X.prog X.w H s.heap
 len:σ.length=X.N.length
section
variable {X:Cx} {pins:List (Addr×Obj)} {σ:List (Option V)} {H H':Hp} {s:Shared} {h':Heap}
theorem Cx.Ok.nofr (ok:X.Ok) {b:Addr} {o:Obj} (e:X.base.get? b=some o):b∉X.fs:=fun hb=>by
 have:=(ok.funs.mem hb).1
 rw [e] at this;cases this
theorem Inv.bs (I:Inv X pins σ H s): ∀ b o,X.base.get? b=some o→s.heap.get? b=some o∧H b=none:=fun b o e=>
 ⟨I.base.keep b o (I.ok.bs b o e).1 (I.ok.bs b o e).2 (I.ok.nofr e) (I.ok.noex b o e),I.base.free b o (I.ok.bs b o e).1 (I.ok.bs b o e).2 (I.ok.noex b o e)⟩
theorem Inv.bk (I:Inv X pins σ H s): ∀ b o,X.base.get? b=some o→s.heap.get? b=some o:=fun b o e=>(I.bs b o e).1
theorem Inv.mod (I:Inv X pins σ H s):Mod X.K X.mg X.base:=I.ok.mod
theorem Inv.kIn (I:Inv X pins σ H s):X.K.In s.heap:=I.ok.mod.kin.keeps I.bk
theorem Inv.lt (I:Inv X pins σ H s):X.env.locals<s.heap.objs.size:=let ⟨_,hn,_⟩:=I.loc;hn.lt
theorem Inv.sz (I:Inv X pins σ H s):X.s₀.heap.objs.size≤s.heap.objs.size:=Nat.le_trans I.ok.above (Nat.le_of_lt I.lt)
theorem Inv.nofs (I:Inv X pins σ H s) {a:Addr} (h:s.heap.objs.size≤a):a∉X.fs:=fun hb=>by
 obtain⟨_,o,ho,_⟩:=I.ok.funs.mem hb
 exact absurd (Nat.lt_of_lt_of_le (Heap.lt_size ho) (Nat.le_trans I.sz h)) (Nat.lt_irrefl _)
theorem Inv.cne (I:Inv X pins σ H s): ∀ x c,X.env.cells.lookup x=some c→c≠X.env.locals:=fun x c e z=>by
 obtain⟨v,o,ho,hd⟩:=I.cell x c e
 obtain⟨m,⟨o',es,ep,ho',hd',_⟩,_⟩:=I.loc
 rw [z,ho'] at ho;cases ho;rw [hd'] at hd;cases hd
theorem Inv.funs (I:Inv X pins σ H s):s.heap.FunFrames X.base X.outer:=by
 have all: ∀ (l:List Env),(∀ b∈frs l,b∈X.fs)→X.s₀.heap.FunFrames X.base l→s.heap.FunFrames X.base l:=by
  intro l
  induction l with
  | nil=>intro _ _;trivial
  | cons env r ih=>
   intro hs hl
   obtain⟨hk,⟨L,o,hf,hn,ho,hd⟩,hr⟩:=hl
   have hL:L∈X.fs:=hs L (by unfold frs;rw [List.filterMap_cons,hf];exact List.mem_cons_self)
   obtain⟨sl,e⟩:=I.base.slot L o ho (I.ok.frf L hL) hL fun z=>I.ok.exfs L z hL
   exact⟨hk,⟨L,_,hf,hn,e,hd⟩,ih (fun b hb=>hs b (by unfold frs;rw [List.filterMap_cons,hf];exact List.mem_cons_of_mem _ hb)) hr⟩
 exact all X.outer (fun _ hb=>hb) I.ok.funs
theorem Inv.stack (I:Inv X pins σ H s):s.heap.FunFrames X.base X.stack:=by
 rcases I.ok.stk with e | ⟨e,hf⟩
 ·rw [e];exact I.funs
 ·rw [e]
  obtain⟨m,hn,_⟩:=I.loc
  refine .cons (by rw [I.ok.kind];decide) hf hn ?_ I.funs
  exact Heap.get?_none_of_le (Nat.le_trans I.ok.bsz I.ok.above)
theorem Inv.stkSub (I:Inv X pins σ H s): ∀ b∈frs X.stack,b∈X.env.locals::X.fs:=fun b hb=>by
 rcases I.ok.stk with e | ⟨e,hf⟩
 ·rw [e] at hb;exact List.mem_cons_of_mem _ hb
 ·rw [e] at hb
  unfold frs at hb
  rw [List.filterMap_cons,hf] at hb
  exact hb
theorem Inv.stkFree (I:Inv X pins σ H s): ∀ b∈frs X.stack,H b=none:=fun b hb=>by
 rcases List.mem_cons.mp (I.stkSub b hb) with e | hb
 ·rw [e];exact I.free
 ·obtain⟨_,o,ho,_⟩:=I.ok.funs.mem hb
  exact I.base.free b o ho (I.ok.frf b hb) fun z=>I.ok.exfs b z hb
theorem Inv.step {g':Array GenState} {t':Nat} {d':Drawn} {ch:List Addr} (I:Inv X pins σ H s)
  (hch: ∀ b∈ch,(b∈X.ex∨X.s₀.heap.objs.size≤b)∧b≠X.env.locals∧(∀ x c,X.env.cells.lookup x=some c→c≠b)∧ ∀ p∈X.pn++pins,p.1≠b)
  (keep: ∀ b o,b≠X.env.locals→b∉X.fs→b∉ch→s.heap.get? b=some o→H b=none→h'.get? b=some o)
  (slot: ∀ b o,b≠X.env.locals→b∈X.fs→b∉ch→s.heap.get? b=some o→H b=none→ ∃ sl,h'.get? b=some { o with slots:=sl }) (free: ∀ b o,b∉ch→s.heap.get? b=some o→H b=none→H' b=none)
  (there: ∀ b o,b∉ch→s.heap.get? b=some o→ ∃ o',h'.get? b=some o')
  (tups: ∀ b xs,H b=some (.tup xs)→H' b=some (.tup xs)) (frzs: ∀ b o u,H b=some (.frz o u)→H' b=some (.frz o u)) (tbls: ∀ b ps,H b=some (.tbl ps)→ ∃ more,H' b=some (.tbl (ps++more)))
  (ns: ∀ m,s.heap.Ns X.env.locals m→h'.Ns X.env.locals m) (hok:HOk X.prog X.w H' h') (hg:AllBare g'):
  Inv X pins σ H' { s with heap:=h',gens:=g',drawn:=d',toks:=t' }:=by
 have neL: ∀ b o,X.s₀.heap.get? b=some o→b≠X.env.locals:=fun b o e=>Nat.ne_of_lt (Nat.lt_of_lt_of_le (Heap.lt_size e) I.ok.above)
 have neC: ∀ b o,X.s₀.heap.get? b=some o→b∉X.ex→b∉ch:=fun b o e hx hb=>by
  rcases(hch b hb).1 with z | z
  ·exact hx z
  ·exact absurd (Nat.lt_of_lt_of_le (Heap.lt_size e) z) (Nat.lt_irrefl _)
 have cellK: ∀ x c,X.env.cells.lookup x=some c→ ∀ v,s.heap.IsCell c v→h'.IsCell c v:=fun x c e v ⟨o,ho,hd⟩=>by
  have nch:c∉ch:=fun z=>(hch c z).2.2.1 x c e rfl
  by_cases hc:c∈X.fs
  ·obtain⟨sl,q⟩:=slot c o (I.cne x c e) hc nch ho (I.freeC x c e)
   exact⟨_,q,hd⟩
  ·exact⟨o,keep c o (I.cne x c e) hc nch ho (I.freeC x c e),hd⟩
 refine⟨I.ok,I.os,hg,⟨fun b o e n hb hx=> ?_,fun b o e n hb hx=> ?_,fun b o e n hx=> ?_,fun b o e hx=> ?_,fun b xs e=>tups b xs (I.base.tups b xs e),fun b o xs e=>frzs b o xs (I.base.frzs b o xs e),fun b ps e=> ?_⟩, ?_,fun x c e=> ?_, ?_,fun x c e=> ?_,fun p hp=> ?_,hok,I.len⟩
 ·exact keep b o (neL b o e) hb (neC b o e hx) (I.base.keep b o e n hb hx) (I.base.free b o e n hx)
 ·obtain⟨sl,e1⟩:=I.base.slot b o e n hb hx
  obtain⟨sl',e2⟩:=slot b _ (neL b o e) hb (neC b o e hx) e1 (I.base.free b o e n hx)
  exact⟨sl',e2⟩
 ·obtain⟨o',e1⟩:=I.base.there b o e hx
  exact free b o' (neC b o e hx) e1 (I.base.free b o e n hx)
 ·obtain⟨o',e1⟩:=I.base.there b o e hx
  exact there b o' (neC b o e hx) e1
 ·obtain⟨m1,e1⟩:=I.base.tbls b ps e
  obtain⟨m2,e2⟩:=tbls b _ e1
  exact⟨m1++m2,by rw [e2,Array.append_assoc]⟩
 ·obtain⟨m,hn,hl⟩:=I.loc
  refine⟨m,ns m hn,fun i x v e1 e2 e3=> ?_⟩
  obtain⟨u,r,l⟩:=hl i x v e1 e2 e3
  refine⟨u,r, ?_⟩
  rcases l with l | ⟨k,c,e,z⟩
  ·exact .inl l
  ·exact .inr ⟨k,c,e,cellK x c e _ z⟩
 ·obtain⟨v,z⟩:=I.cell x c e
  exact⟨v,cellK x c e v z⟩
 ·obtain⟨m,⟨o,_,_,ho,_⟩,_⟩:=I.loc
  exact free _ o (fun z=>(hch _ z).2.1 rfl) ho I.free
 ·obtain⟨v,o,ho,hd⟩:=I.cell x c e
  exact free c o (fun z=>(hch c z).2.2.1 x c e rfl) ho (I.freeC x c e)
 ·obtain⟨e,n,ne,nf,d⟩:=I.pin p hp
  have nch:p.1∉ch:=fun z=>(hch p.1 z).2.2.2 p hp rfl
  exact⟨keep p.1 p.2 ne nf nch e n,free p.1 p.2 nch e n,ne,nf,d⟩
theorem Inv.un {t':Nat} (I:Inv X pins σ H s) (u:Un X.fs [] H H' s.heap h') (hok:HOk X.prog X.w H' h'):Inv X pins σ H' { s with heap:=h',toks:=t' }:=by
 obtain⟨m,⟨o,es,ep,ho,r⟩,_⟩:=id I.loc
 obtain⟨sl,hL⟩:=u.any ho I.free (by simp)
 exact I.step (g':=s.gens) (d':=s.drawn) (ch:=[]) (fun _ z=>nomatch z) (fun b o _ hb _ e n=>u.keep b o e n hb (by simp)) (fun b o _ hb _ e n=>u.slot b o e n hb (by simp)) (fun b o _ e n=>u.free b o e n (by simp)) (fun b o _ e=>u.there b o e (by simp)) u.tups u.frzs u.tbls (fun m' hm=>by
  obtain⟨o',es',ep',ho',r'⟩:=hm
  rw [ho] at ho';cases ho'
  exact⟨_,es',ep',hL,r'⟩) hok I.bare
theorem Inv.call {g':Array GenState} {t':Nat} {d':Drawn} {ch:List Addr} (I:Inv X pins σ H s) (u:Un (frs X.stack) ch H H' s.heap h') (hok:HOk X.prog X.w H' h') (hg:AllBare g')
  (hch: ∀ b∈ch,(b∈X.ex∨X.s₀.heap.objs.size≤b)∧b≠X.env.locals∧(∀ x c,X.env.cells.lookup x=some c→c≠b)∧ ∀ p∈X.pn++pins,p.1≠b):
  Inv X pins σ H' { s with heap:=h',gens:=g',drawn:=d',toks:=t' }:=by
 obtain⟨m,⟨o,es,ep,ho,r⟩,_⟩:=id I.loc
 obtain⟨sl,hL⟩:=u.any ho I.free fun z=>(hch _ z).2.1 rfl
 exact I.step (ch:=ch) hch (fun b o hL hb hc e n=>u.keep b o e n (fun z=>(List.mem_cons.mp (I.stkSub b z)).elim hL hb) hc) (fun b o _ _ hc e n=>u.any e n hc) (fun b o hc e n=>u.free b o e n hc) (fun b o hc e=>u.there b o e hc) u.tups u.frzs u.tbls (fun m' hm=>by
  obtain⟨o',es',ep',ho',r'⟩:=hm
  rw [ho] at ho';cases ho'
  exact⟨_,es',ep',hL,r'⟩) hok hg
theorem Inv.turned {t':Nat} {it:Addr} (I:Inv X pins σ H s) (k: ∀ b o,b≠it→s.heap.get? b=some o→h'.get? b=some o) (hn:H it=none) (hL:it≠X.env.locals)
  (h1:it∈X.ex∨X.s₀.heap.objs.size≤it) (h2: ∀ x c,X.env.cells.lookup x=some c→c≠it) (h3: ∀ p∈X.pn++pins,p.1≠it):Inv X pins σ H { s with heap:=h',toks:=t' }:=by
 have nit: ∀ b u,H b=some u→b≠it:=fun b u e z=>by rw [z,hn] at e;cases e
 refine I.step (g':=s.gens) (d':=s.drawn) (ch:=[it]) (fun b hb=> ?_) (fun b o _ _ hc e _=>k b o (fun z=>hc (by simp [z])) e) (fun b o _ _ hc e _=>⟨o.slots,k b o (fun z=>hc (by simp [z])) e⟩) (fun _ _ _ _ n=>n)
  (fun b o hc e=>⟨o,k b o (fun z=>hc (by simp [z])) e⟩) (fun _ _ e=>e) (fun _ _ _ e=>e) (fun b ps e=>⟨#[],by rw [e];simp⟩) (fun m hm=> ?_) (fun b u e=> ?_) I.bare
 ·have e:b=it:=by simpa using hb
  subst e
  exact⟨h1,hL,h2,h3⟩
 ·obtain⟨o,es,ep,ho,r⟩:=hm
  exact⟨o,es,ep,k _ o (Ne.symm hL) ho,r⟩
 ·refine(I.hok b u e).stay (fun c v hc q=>k c v ?_ q) (fun _ q=>q) fun _ _ q=>q
  rcases hc with z | z
  ·rw [z];exact nit b u e
  ·exact nit c _ z
theorem Inv.tok (I:Inv X pins σ H s) (t:Nat):Inv X pins σ H { s with toks:=t }:=I.un (h':=s.heap) (t':=t) Un.refl I.hok
theorem Inv.kept {t':Nat} (I:Inv X pins σ H s) (k: ∀ b u,s.heap.get? b=some u→h'.get? b=some u):Inv X pins σ H { s with heap:=h',toks:=t' }:=I.un (Un.kept k) (I.hok.kept k)
theorem Inv.laid {a:Addr} {o:HO} {t':Nat} (I:Inv X pins σ H s) (k: ∀ b u,s.heap.get? b=some u→h'.get? b=some u) (hp:s.heap.objs.size≤a) (new:ObjOk X.prog X.w (upd H a o) h' a o):
  Inv X pins σ (upd H a o) { s with heap:=h',toks:=t' }:=I.un (Un.laid k hp (I.hok.fresh hp)) (I.hok.laid k hp new)
theorem Inv.write {x e:Addr} {o:HO} {t':Nat} (I:Inv X pins σ H s) (mu:Mut (H x)) (he:e=x∨H e=some (.own x)) (k: ∀ b u,b≠e→s.heap.get? b=some u→h'.get? b=some u) (heo: ∃ u,h'.get? e=some u)
  (new:ObjOk X.prog X.w (upd H x o) h' x o):Inv X pins σ (upd H x o) { s with heap:=h',toks:=t' }:=I.un (Un.write mu he k heo) (I.hok.write mu he k heo new)
theorem Inv.pins_of {pins':List (Addr×Obj)} (I:Inv X pins σ H s) (h: ∀ p∈pins',s.heap.get? p.1=some p.2∧H p.1=none∧p.1≠X.env.locals∧p.1∉X.fs∧ ∀ v,p.2.data≠ .cell v):Inv X pins' σ H s:=
 ⟨I.ok,I.os,I.bare,I.base,I.loc,I.cell,I.free,I.freeC,fun p hp=>(List.mem_append.mp hp).elim (fun z=>I.pin p (List.mem_append_left _ z)) (h p),I.hok,I.len⟩
theorem lD {N:List Str} (hN:N.Nodup) {i j:Nat} {x:Str} (a:N[i]? =some x) (b:N[j]? =some x):i=j:=by
 obtain⟨h1,e1⟩:=List.getElem?_eq_some_iff.mp a
 obtain⟨h2,e2⟩:=List.getElem?_eq_some_iff.mp b
 exact(List.getElem_inj hN).mp (e1.trans e2.symm)
theorem iE {M:Model} {A:Around} {E:Value→Shared→Prop} {i:Nat} {x:Str} {v:V} {u:Value} {Q:Unit→Shared→Prop} (I:Inv X pins σ H s) (hN:X.N.Nodup) (hi:X.N[i]? =some x) (hx:Loc X.env.scope x) (r:RelV v u)
  (h: ∀ s',Inv X pins (σ.set i (some v)) H s'→(∃ a,Heap.SameBut a s.heap s'.heap∧(a=X.env.locals∨X.env.cells.lookup x=some a))→Q () s') (hf:X.fn x=true∨X.env.scope.names.lookup x=some .local:=by first | exact .inl rfl | exact .inr rfl | assumption):wpAny M A (storeName X.env x u) Q E s:=by
 obtain⟨m,hn,hl⟩:=id I.loc
 have hcls:(X.env.scope.kind== .class||(X.env.scope.kind== .module&&X.env.locals != X.env.globals))=false:=by rw [I.ok.kind];rfl
 have hiσ:i<σ.length:=by rw [I.len];exact(List.getElem?_eq_some_iff.mp hi).1
 have cne:=I.cne
 have tracked: ∀ {a:Addr} {h':Heap},(∃ o,s.heap.get? a=some o∧H a=none)→Heap.SameBut a s.heap h'→HOk X.prog X.w H h':=fun {a h'} ha hs b ob e=>by
  obtain⟨_,_,hfree⟩:=ha
  refine(I.hok b ob e).stay (fun c w' hc q=>(hs.2 c ?_).trans q) (fun _ q=>q) fun _ _ q=>q
  rintro rfl
  rcases hc with rfl | hc
  ·rw [hfree] at e;cases e
  ·rw [hfree] at hc;cases hc
 rcases hx with hk | hk
 ·refine wpAny_storeName_local hk hn (fun h' hn' hs=> ?_) hcls
  obtain⟨oL,_,_,hoL,_⟩:=id hn
  refine h _ ⟨I.ok,I.os,I.bare,⟨fun b o e n hb hx=> ?_,fun b o e n hb hx=> ?_,I.base.free,fun b o e hx=> ?_,I.base.tups,I.base.frzs,I.base.tbls⟩,⟨_,hn',fun j y v' e1 e2 e3=> ?_⟩,fun y c e=> ?_,I.free,I.freeC,fun p hp=> ?_,tracked ⟨oL,hoL,I.free⟩ hs,by simpa using I.len⟩ ⟨_,hs, .inl rfl⟩
  ·exact(hs.2 b (Nat.ne_of_lt (Nat.lt_of_lt_of_le (Heap.lt_size e) I.ok.above))).trans (I.base.keep b o e n hb hx)
  ·obtain⟨sl,e1⟩:=I.base.slot b o e n hb hx
   exact⟨sl,(hs.2 b (Nat.ne_of_lt (Nat.lt_of_lt_of_le (Heap.lt_size e) I.ok.above))).trans e1⟩
  ·obtain⟨o',e1⟩:=I.base.there b o e hx
   exact⟨o',(hs.2 b (Nat.ne_of_lt (Nat.lt_of_lt_of_le (Heap.lt_size e) I.ok.above))).trans e1⟩
  ·by_cases hj:j=i
   ·subst hj
    rw [hi] at e1;cases e1
    rw [List.getElem?_set_self hiσ] at e2
    cases e2
    exact⟨u,r, .inl ⟨hk,by simp⟩⟩
   ·rw [List.getElem?_set_ne (Ne.symm hj)] at e2
    obtain⟨u',r',q⟩:=hl j y v' e1 e2 e3
    refine⟨u',r', ?_⟩
    rcases q with ⟨k,e⟩ | ⟨k,c,e,z⟩
    ·refine .inl ⟨k, ?_⟩
     have:y≠x:=fun e=>hj (lD hN e1 (e▸hi))
     simp [this,e]
    ·exact .inr ⟨k,c,e,z.sameBut hs (cne y c e)⟩
  ·obtain⟨w',z⟩:=I.cell y c e
   exact⟨w',z.sameBut hs (cne y c e)⟩
  ·obtain⟨e,n,ne,nf,d⟩:=I.pin p hp
   exact⟨(hs.2 p.1 ne).trans e,n,ne,nf,d⟩
 ·have hfn:X.fn x=true:=by
   rcases hf with z | z
   ·exact z
   ·rw [z] at hk;cases hk
  obtain⟨c,hc⟩:=I.ok.has x (.inl hk)
  obtain⟨w',z⟩:=I.cell x c hc
  refine wpAny_storeName_cell I.ok.kind hk hc z (fun h' hc' hs=> ?_)
  obtain⟨oc,hoc,hocd⟩:=id z
  refine h { s with heap:=h' } ⟨I.ok,I.os,I.bare,⟨fun b o e n hb hx=> ?_,fun b o e n hb hx=> ?_,I.base.free,fun b o e hx=> ?_,I.base.tups,I.base.frzs,I.base.tbls⟩,⟨m,hn.sameBut hs (Ne.symm (cne x c hc)),fun j y v' e1 e2 e3=> ?_⟩,fun y c' e=> ?_,I.free,I.freeC,fun p hp=> ?_,tracked ⟨oc,hoc,I.freeC x c hc⟩ hs,by simpa using I.len⟩ ⟨c,hs, .inr hc⟩
  ·exact(hs.2 b (Nat.ne_of_lt (Nat.lt_of_lt_of_le (Heap.lt_size e) (I.ok.cab x c hfn hc)))).trans (I.base.keep b o e n hb hx)
  ·obtain⟨sl,e1⟩:=I.base.slot b o e n hb hx
   exact⟨sl,(hs.2 b (Nat.ne_of_lt (Nat.lt_of_lt_of_le (Heap.lt_size e) (I.ok.cab x c hfn hc)))).trans e1⟩
  ·obtain⟨o',e1⟩:=I.base.there b o e hx
   exact⟨o',(hs.2 b (Nat.ne_of_lt (Nat.lt_of_lt_of_le (Heap.lt_size e) (I.ok.cab x c hfn hc)))).trans e1⟩
  ·by_cases hj:j=i
   ·subst hj
    rw [hi] at e1;cases e1
    rw [List.getElem?_set_self hiσ] at e2
    cases e2
    exact⟨u,r, .inr ⟨.inl hk,c,hc,hc'⟩⟩
   ·rw [List.getElem?_set_ne (Ne.symm hj)] at e2
    obtain⟨u',r',q⟩:=hl j y v' e1 e2 e3
    refine⟨u',r', ?_⟩
    rcases q with q | ⟨k,c',e,z'⟩
    ·exact .inl q
    ·refine .inr ⟨k,c',e,z'.sameBut hs ?_⟩
     rintro rfl
     exact hj (lD hN e1 (I.ok.inj _ _ _ e hc▸hi))
  ·by_cases hcc:c'=c
   ·subst hcc;exact⟨_,hc'⟩
   ·obtain⟨w2,z2⟩:=I.cell y c' e
    exact⟨w2,z2.sameBut hs hcc⟩
  ·obtain⟨e,n,ne,nf,d⟩:=I.pin p hp
   refine⟨(hs.2 p.1 ?_).trans e,n,ne,nf,d⟩
   intro q
   rw [q,hoc] at e
   have q':oc=p.2:=Option.some.inj e
   exact d w' (by rw [←q'];exact hocd)
theorem gA {M:Model} {A:Around} {E:Value→Shared→Prop} {i:Nat} {x:Str} {v:V} {u:Value} {Q:Unit→Shared→Prop} (I:Inv X pins σ H s) (hN:X.N.Nodup) (hi:X.N[i]? =some x) (hx:Loc X.env.scope x) (r:RelV v u)
  (h: ∀ s',Inv X pins (σ.set i (some v)) H s'→Q () s') (hf:X.fn x=true∨X.env.scope.names.lookup x=some .local:=by first | exact .inl rfl | exact .inr rfl | assumption):wpAny M A (storeName X.env x u) Q E s:=
 iE I hN hi hx r (fun s' I' _=>h s' I') hf
theorem Inv.call' {s':Shared} {ch:List Addr} (I:Inv X pins σ H s) (ho:s'.os=s.os) (u:Un (frs X.stack) ch H H' s.heap s'.heap) (hok:HOk X.prog X.w H' s'.heap) (hg:AllBare s'.gens)
  (hch: ∀ b∈ch,(b∈X.ex∨X.s₀.heap.objs.size≤b)∧b≠X.env.locals∧(∀ x c,X.env.cells.lookup x=some c→c≠b)∧ ∀ p∈X.pn++pins,p.1≠b):Inv X pins σ H' s':=by
 obtain⟨h',g',d',t',o'⟩:=s'
 have e:o'=s.os:=ho
 subst e
 exact I.call (g':=g') (t':=t') (d':=d') u hok hg hch
end
abbrev XK:=Value→Option Addr→Hp→Prop
abbrev St:=List (Option V)
abbrev VK:=V→Hp→Prop
abbrev TE:=St→Hp→VK→Prop
abbrev TT:=St→Hp→(Bool→Hp→Prop)→Prop
abbrev TA:=St→Hp→(List V→Hp→Prop)→Prop
structure Ends where
 nx:St→Hp→Prop
 rt:VK
 bk:St→Hp→Prop:=fun _ _=>False
 ct:St→Hp→Prop:=fun _ _=>False
abbrev TS:=Ends→St→Hp→Prop
def EP (X:Cx) (pins:List (Addr×Obj)) (σ:St) (Q:VK) (u:Value) (s':Shared):Prop:= ∃ v H',Inv X pins σ H' s'∧RelV v u∧Q v H'
def TP (X:Cx) (pins:List (Addr×Obj)) (σ:St) (Q:Bool→Hp→Prop) (b:Bool) (s':Shared):Prop:= ∃ H',Inv X pins σ H' s'∧Q b H'
def AP (X:Cx) (pins:List (Addr×Obj)) (σ:St) (Q:List V→Hp→Prop) (us:List Value) (s':Shared):Prop:= ∃ vs H',Inv X pins σ H' s'∧Vals vs us∧Q vs H'
def SP (X:Cx) (pins:List (Addr×Obj)) (D:Ends) (f:Flow) (s':Shared):Prop:=
 match f with
 | .next=> ∃ σ' H',Inv X pins σ' H' s'∧D.nx σ' H'
 | .brk=> ∃ σ' H',Inv X pins σ' H' s'∧D.bk σ' H'
 | .cont=> ∃ σ' H',Inv X pins σ' H' s'∧D.ct σ' H'
 | .ret u=> ∃ v σ' H',Inv X pins σ' H' s'∧RelV v u∧D.rt v H'
def PE (X:Cx) (e:Expr) (t:TE):Prop:=
 ∀ (pins:List (Addr×Obj)) (s:Shared) (σ:St) (H:Hp) (Q:VK),Inv X pins σ H s→t σ H Q→wpAny (model X.prog X.w) X.A (eval e X.env) (EP X pins σ Q) X.xe s
def PT (X:Cx) (e:Expr) (t:TT):Prop:=
 ∀ (pins:List (Addr×Obj)) (s:Shared) (σ:St) (H:Hp) (Q:Bool→Hp→Prop),Inv X pins σ H s→t σ H Q→wpAny (model X.prog X.w) X.A (isTrue e X.env (eval e X.env)) (TP X pins σ Q) X.xe s
def PW (X:Cx) (e:Expr) (t:TT):Prop:=
 ∀ (whole:Sem Value) (pins:List (Addr×Obj)) (s:Shared) (σ:St) (H:Hp) (Q:Bool→Hp→Prop),Inv X pins σ H s→t σ H Q→wpAny (model X.prog X.w) X.A (isTrue e X.env whole) (TP X pins σ Q) X.xe s
def PA (X:Cx) (es:List Expr) (t:TA):Prop:=
 ∀ (pos:Pos) (pins:List (Addr×Obj)) (s:Shared) (σ:St) (H:Hp) (Q:List V→Hp→Prop),Inv X pins σ H s→t σ H Q→wpAny (model X.prog X.w) X.A (spliced (backTo pos (starEach es X.env))) (AP X pins σ Q) X.xe s
def PS (X:Cx) (st:Stmt) (t:TS):Prop:=
 ∀ (pins:List (Addr×Obj)) (s:Shared) (σ:St) (H:Hp) (D:Ends),Inv X pins σ H s→t D σ H→wpAny (model X.prog X.w) X.A (exec st X.env) (SP X pins D) X.xe s
def PSs (X:Cx) (st:List Stmt) (t:TS):Prop:=
 ∀ (pins:List (Addr×Obj)) (s:Shared) (σ:St) (H:Hp) (D:Ends),Inv X pins σ H s→t D σ H→wpAny (model X.prog X.w) X.A (execs st X.env) (SP X pins D) X.xe s
theorem thn {α:Type} {t:Sem α} {Q Q':α→Shared→Prop} {M:Model} {A:Around} {E:Value→Shared→Prop} {s:Shared} (h:wpAny M A t Q E s) (hQ: ∀ a s,Q a s→Q' a s):wpAny M A t Q' E s:=wpAny_mono h hQ fun _ _ x=>x
section
variable {X:Cx}
noncomputable def tVar (i:Nat):TE:=fun σ H Q=> ∃ v,σ[i]? =some (some v)∧Q v H
noncomputable def tC (v:V):TE:=fun _ H Q=>Q v H
theorem bL {i:Nat} {x:Str} {pos:Pos} (hN:X.N[i]? =some x) (hv:Vis X.env.scope x) (hd:(x==("__debug__":Str))=false:=by decide) (hcd:(x==("__classdict__":Str))=false:=by decide):PE X (.Name x pos) (tVar i):=by
 intro pins s σ H Q I h
 obtain⟨v,e,h⟩:=h
 obtain⟨m,hn,hl⟩:=I.loc
 obtain⟨u,r,l⟩:=hl i x v hN e hv
 have fin:EP X pins σ Q u s:=⟨v,H,I,r,h⟩
 rcases l with ⟨hk,hm⟩ | ⟨hk,c,hc,hcell⟩
 ·exact wpAny_Name (wpAny_loadName_local I.ok.kind hk hn hm fin) hd
 ·rcases hk with hk | hk
  ·exact wpAny_Name (wpAny_loadName_cell I.ok.kind hk hc hcell fin) hd
  ·exact wpAny_Name (wpAny_loadName_free I.ok.kind hk hc hcell fin hcd) hd
theorem zQ {i j pos}:PE X (.Constant (.int i) j pos) (tC (.int i)):=fun _ _ _ H _ I h=>wpAny_Constant_int ⟨.int i,H,I.tok _,⟨_,rfl⟩,h⟩
theorem aC2 {b j pos}:PE X (.Constant (.bool b) j pos) (tC (.bl b)):=fun _ _ _ H _ I h=>Constant_bool ⟨.bl b,H,I,rfl,h⟩
theorem zR {j pos}:PE X (.Constant .none j pos) (tC .non):=fun _ _ _ H _ I h=>Constant_none ⟨.non,H,I,rfl,h⟩
theorem zS {x j pos}:PE X (.Constant (.str x) j pos) (tC (.str x)):=fun _ _ _ H _ I h=>Calls.Constant_str ⟨.str x,H,I.tok _,⟨_,rfl⟩,h⟩
def Gl (X:Cx) (x:Str):Prop:=X.env.kindOf x=some .globalImplicit
theorem gB {E:Value→Shared→Prop} {pins:List (Addr×Obj)} {s:Shared} {σ:St} {H:Hp} {x:Str} {u:Value} {pos:Pos} {Q:Value→Shared→Prop} (I:Inv X pins σ H s) (hg:Gl X x) (hm:X.mg x=some u) (h:Q u s)
  (hd:(x==("__debug__":Str))=false:=by decide):wpAny (model X.prog X.w) X.A (eval (.Name x pos) X.env) Q E s:=
 Calls.Name_function_global I.ok.kind hg (Calls.loadGlobal_global (by rw [I.ok.glob];exact I.mod.glob.keeps I.bk) hm h) hd
theorem bM {E:Value→Shared→Prop} {pins:List (Addr×Obj)} {s:Shared} {σ:St} {H:Hp} {x:Str} {u:Value} {pos:Pos} {Q:Value→Shared→Prop} (I:Inv X pins σ H s) (hg:Gl X x) (hm:X.mg x=none) (hv:bootBuiltins x=some u) (h:Q u s)
  (hn:x≠"__name__":=by decide) (hd:(x==("__debug__":Str))=false:=by decide):wpAny (model X.prog X.w) X.A (eval (.Name x pos) X.env) Q E s:=by
 obtain⟨mb,h1,h2⟩:=I.mod.blt
 exact Calls.Name_function_global I.ok.kind hg (Calls.loadGlobal_builtin (by rw [I.ok.glob];exact I.mod.glob.keeps I.bk) hm (by rw [I.ok.blt];exact h1.keeps I.bk) ((h2 x hn).trans hv) h) hd
theorem wH {x:Str} {v:V} {u:Value} {pos:Pos} (hg:Gl X x) (hm:X.mg x=some u) (r:RelV v u) (hd:(x==("__debug__":Str))=false:=by decide):PE X (.Name x pos) (tC v):=
 fun _ _ _ H _ I h=>gB I hg hm ⟨v,H,I,r,h⟩ hd
variable {a b:Expr} {ta tb:TE} {pos:Pos}
noncomputable def tB (t:TE):TT:=fun σ H Q=>t σ H fun x H1=> ∃ c,x= .bl c∧Q c H1
theorem zT {e:Expr} {t:TE} (h:PE X e t) (he: ∀ whole,isTrue e X.env whole=(do let v←whole;standAt e.pos;holding [v] (truthy v)):=by intro _;rfl):PT X e (tB t):=by
 intro pins s σ H Q I hw
 refine isTrue_plain (thn (h pins s σ H _ I hw) fun v s1 ⟨x,H1,I1,r1,q1⟩=> ?_) (he _)
 obtain⟨d,rfl,q⟩:=q1
 cases r1
 exact wpAny_truthy_bool ⟨H1,I1,q⟩
variable {tA tB':TT} {rest:List Expr}
noncomputable def tAnd (t u:TT):TT:=fun σ H Q=>t σ H fun c H1=>if c=true then u σ H1 Q else Q false H1
noncomputable def tOr (t u:TT):TT:=fun σ H Q=>t σ H fun c H1=>if c=true then Q true H1 else u σ H1 Q
noncomputable def tNot (t:TT):TT:=fun σ H Q=>t σ H fun c H1=>Q (!c) H1
theorem pw_and1 (ha:PT X a tA):PW X (.BoolOp .And [a] pos) tA:=by
 intro wh pins s σ H Q I h
 refine isTrue_and (thn (ha pins s σ H Q I h) fun c s1 e=> ?_)
 cases c with
 | true=>exact isTrue_and_nil e
 | false=>exact e
theorem pw_or1 (ha:PT X a tA):PW X (.BoolOp .Or [a] pos) tA:=by
 intro wh pins s σ H Q I h
 refine isTrue_or (thn (ha pins s σ H Q I h) fun c s1 e=> ?_)
 cases c with
 | false=>exact isTrue_or_nil e
 | true=>exact e
theorem pw_and (ha:PT X a tA) (hb:PW X (.BoolOp .And (b::rest) pos) tB'):PW X (.BoolOp .And (a::b::rest) pos) (tAnd tA tB'):=by
 intro wh pins s σ H Q I h
 refine isTrue_and (thn (ha pins s σ H _ I h) fun c s1 hz_=> ?_)
 obtain⟨H1,I1,q1⟩:=hz_
 cases c with
 | true=>exact hb wh pins s1 σ H1 Q I1 q1
 | false=>exact⟨H1,I1,q1⟩
theorem pw_or (ha:PT X a tA) (hb:PW X (.BoolOp .Or (b::rest) pos) tB'):PW X (.BoolOp .Or (a::b::rest) pos) (tOr tA tB'):=by
 intro wh pins s σ H Q I h
 refine isTrue_or (thn (ha pins s σ H _ I h) fun c s1 hz_=> ?_)
 obtain⟨H1,I1,q1⟩:=hz_
 cases c with
 | true=>exact⟨H1,I1,q1⟩
 | false=>exact hb wh pins s1 σ H1 Q I1 q1
theorem zU (ha:PT X a tA):PT X (.UnaryOp .Not a pos) (tNot tA):=by
 intro pins s σ H Q I h
 exact isTrue_not (ha pins s σ H (fun c H1=>Q (!c) H1) I h)
noncomputable def tAndV (ta tb:TE):TE:=fun σ H Q=>ta σ H fun x H1=> ∃ c,x= .bl c∧if c=true then tb σ H1 Q else Q (.bl false) H1
noncomputable def tOrV (ta tb:TE):TE:=fun σ H Q=>ta σ H fun x H1=> ∃ c,x= .bl c∧if c=true then Q (.bl true) H1 else tb σ H1 Q
noncomputable def tNotV (ta:TE):TE:=fun σ H Q=>ta σ H fun x H1=> ∃ c,x= .bl c∧Q (.bl (!c)) H1
theorem zV {op} {t:TE} (h:PE X a t):PE X (.BoolOp op [a] pos) t:=fun pins s σ H Q I hw=>BoolOp_one (h pins s σ H Q I hw)
theorem zW (ha:PE X a ta) (hb:PE X (.BoolOp .And (b::rest) pos) tb):PE X (.BoolOp .And (a::b::rest) pos) (tAndV ta tb):=by
 intro pins s σ H Q I h
 refine BoolOp_and (thn (ha pins s σ H _ I h) fun v s1 hz_=> ?_)
 obtain⟨x,H1,I1,r1,q1⟩:=hz_
 obtain⟨c,rfl,q1⟩:=q1
 cases r1
 refine wpAny_truthy_bool ?_
 cases c with
 | true=>exact hb pins s1 σ H1 Q I1 q1
 | false=>exact⟨.bl false,H1,I1,rfl,q1⟩
theorem aC3 (ha:PE X a ta) (hb:PE X (.BoolOp .Or (b::rest) pos) tb):PE X (.BoolOp .Or (a::b::rest) pos) (tOrV ta tb):=by
 intro pins s σ H Q I h
 refine BoolOp_or (thn (ha pins s σ H _ I h) fun v s1 hz_=> ?_)
 obtain⟨x,H1,I1,r1,q1⟩:=hz_
 obtain⟨c,rfl,q1⟩:=q1
 cases r1
 refine wpAny_truthy_bool ?_
 cases c with
 | false=>exact hb pins s1 σ H1 Q I1 q1
 | true=>exact⟨.bl true,H1,I1,rfl,q1⟩
theorem zX (ha:PE X a ta):PE X (.UnaryOp .Not a pos) (tNotV ta):=by
 intro pins s σ H Q I h
 refine UnaryOp_ (thn (ha pins s σ H _ I h) fun v s1 hz_=> ?_)
 obtain⟨x,H1,I1,r1,q1⟩:=hz_
 obtain⟨c,rfl,q1⟩:=q1
 cases r1
 exact not_of (wpAny_truthy_bool ⟨.bl (!c),H1,I1,rfl,q1⟩)
noncomputable def tIf (t:TT) (ta tb:TE):TE:=fun σ H Q=>t σ H fun c H1=>if c=true then ta σ H1 Q else tb σ H1 Q
theorem sE {c:Expr} (hc:PT X c tA) (ha:PE X a ta) (hb:PE X b tb):PE X (.IfExp c a b pos) (tIf tA ta tb):=by
 intro pins s σ H Q I h
 refine wpAny_IfExp (thn (hc pins s σ H _ I h) fun d s1 hz_=> ?_)
 obtain⟨H1,I1,q1⟩:=hz_
 cases d with
 | true=>exact ha pins s1 σ H1 Q I1 q1
 | false=>exact hb pins s1 σ H1 Q I1 q1
end
def SqL (K:PySem.W.Frag) (H:Hp) (a:Addr) (xs:List V):Prop:=
 Rd H a (.lst xs)∨
  ∃ (o:Obj) (its:Array Value) (n:Nat),K.lookup a=some o∧o.cls= .type "list"∧o.dict=none∧o.data= .seq its n∧its.size≤sizeLine∧Vals xs its.toList
def SqT (K:PySem.W.Frag) (H:Hp) (a:Addr) (xs:List V):Prop:=
 Rd H a (.tup xs)∨
  ∃ (o:Obj) (its:Array Value) (n:Nat),K.lookup a=some o∧o.cls= .type "tuple"∧o.dict=none∧o.data= .seq its n∧its.size≤sizeLine∧Vals xs its.toList
noncomputable def absV:Value→Option V
 | .none=>some .non
 | .bool b=>some (.bl b)
 | .int i _=>some (.int i)
 | .str x _=>some (.str x)
 | .bytes b _=>some (.byt b)
 | .float b _=>some (.flt b)
 | .ref a=>some (.ref a)
 | .type n=>some (.ty n)
 | _=>none
theorem RelV.abs {x:V} {u:Value} (r:RelV x u):absV u=some x:=by
 cases x with
 | non=>cases r;rfl
 | bl _=>cases r;rfl
 | int _=>obtain⟨t,rfl⟩:=r;rfl
 | str _=>obtain⟨t,rfl⟩:=r;rfl
 | byt _=>obtain⟨t,rfl⟩:=r;rfl
 | flt _=>obtain⟨t,rfl⟩:=r;rfl
 | ref _=>cases r;rfl
 | ty _=>cases r;rfl
theorem RelV.inj {x y:V} {u:Value} (r:RelV x u) (q:RelV y u):x=y:=Option.some.inj (r.abs.symm.trans q.abs)
theorem Vals.inj: ∀ {xs ys:List V} {us:List Value},Vals xs us→Vals ys us→xs=ys
 | _,_,_, .nil, .nil=>rfl
 | _,_,_, .cons r t, .cons r' t'=>by rw [r.inj r',Vals.inj t t']
section
variable {X:Cx} {pins:List (Addr×Obj)} {σ:St} {H:Hp} {s:Shared} {a:Addr} {xs ys:List V}
theorem SqL.of {K:PySem.W.Frag} (h:H a=some (.lst xs)):SqL K H a xs:= .inl (.inl h)
theorem SqT.of {K:PySem.W.Frag} (h:H a=some (.tup xs)):SqT K H a xs:= .inl (.inl h)
theorem Inv.list (I:Inv X pins σ H s) (h:SqL X.K H a xs): ∃ its:List Value,Vals xs its∧PlainL s.heap a its.toArray∧xs.length≤sizeLine:=by
 rcases h with h | ⟨o,its,n,hk,hc,hd,hs,hz,r⟩
 ·obtain⟨z,its,n,r,e⟩:=h.ok I.hok
  exact⟨its,r,⟨_,n,e,rfl,rfl,rfl⟩,z⟩
 ·refine⟨its.toList,r,⟨o,n,I.kIn a o hk,hc,hd,by simpa using hs⟩, ?_⟩
  have e:=r.length
  simp only [Array.length_toList] at e
  omega
theorem Inv.tuple (I:Inv X pins σ H s) (h:SqT X.K H a xs): ∃ its:List Value,Vals xs its∧IsTup s.heap a its.toArray∧xs.length≤sizeLine:=by
 rcases h with h | ⟨o,its,n,hk,hc,_,hs,hz,r⟩
 ·obtain⟨z,its,r,p,_⟩:=h.ok I.hok
  exact⟨its,r,p,z⟩
 ·refine⟨its.toList,r,⟨o,I.kIn a o hk,hc,n,by simpa using hs⟩, ?_⟩
  have e:=r.length
  simp only [Array.length_toList] at e
  omega
theorem Inv.tupleN (I:Inv X pins σ H s) (h:SqT X.K H a xs):NoDict s.heap a:=by
 rcases h with h | ⟨o,its,n,hk,hc,hd,hs,hz,r⟩
 ·obtain⟨z,its,r,p,q⟩:=h.ok I.hok
  exact q
 ·exact⟨o,I.kIn a o hk,hd⟩
theorem Inv.list_inj (I:Inv X pins σ H s) (h:SqL X.K H a xs) (h':SqL X.K H a ys):xs=ys:=by
 obtain⟨its,r,⟨o,n,e,_,_,d⟩,_⟩:=I.list h
 obtain⟨its',r',⟨o',n',e',_,_,d'⟩,_⟩:=I.list h'
 rw [e] at e';cases e'
 rw [d] at d'
 injection d' with d1 _
 have:its=its':=by simpa using congrArg Array.toList d1
 subst this
 exact r.inj r'
theorem Inv.tuple_inj (I:Inv X pins σ H s) (h:SqT X.K H a xs) (h':SqT X.K H a ys):xs=ys:=by
 obtain⟨its,r,⟨o,e,_,n,d⟩,_⟩:=I.tuple h
 obtain⟨its',r',⟨o',e',_,n',d'⟩,_⟩:=I.tuple h'
 rw [e] at e';cases e'
 rw [d] at d'
 injection d' with d1 _
 have:its=its':=by simpa using congrArg Array.toList d1
 subst this
 exact r.inj r'
end
noncomputable abbrev Cx.wish (X:Cx) (E:Value→Shared→Prop):Cx:={ X with xe:=E }
section
variable {X:Cx} {pins:List (Addr×Obj)} {σ:St} {H:Hp} {s:Shared} {E:Value→Shared→Prop}
end
section
variable {X:Cx} {st:Stmt} {rest:List Stmt} {t u:TS} {e:Expr} {te:TE} {pos:Pos}
noncomputable def tNext:TS:=fun D σ H=>D.nx σ H
noncomputable def tSeq (t u:TS):TS:=fun D σ H=>t { D with nx:=u D } σ H
theorem wI:PSs X [] tNext:=fun _ _ σ H _ I h=>wpAny_execs_nil ⟨σ,H,I,h⟩
theorem sF (h1:PS X st t) (h2:PSs X rest u):PSs X (st::rest) (tSeq t u):=by
 intro pins s σ H D I h
 refine wpAny_execs_cons (thn (h1 pins s σ H { D with nx:=u D } I h) fun f s1 q=> ?_)
 cases f with
 | next=>
  obtain⟨σ',H',I',q⟩:=q
  exact h2 pins s1 σ' H' D I' q
 | ret v=>exact q
 | brk=>exact q
 | cont=>exact q
theorem wJ (h1:PS X st t):PSs X [st] t:=by
 intro pins s σ H D I h
 refine wpAny_execs_cons (thn (h1 pins s σ H D I h) fun f s1 q=> ?_)
 cases f with
 | next=>exact wpAny_execs_nil q
 | ret v=>exact q
 | brk=>exact q
 | cont=>exact q
noncomputable def tBreak:TS:=fun D σ H=>D.bk σ H
noncomputable def tCont:TS:=fun D σ H=>D.ct σ H
theorem wK:PS X (.Pass pos) tNext:=fun _ _ σ H _ I h=>wpAny_Pass ⟨σ,H,I,h⟩
theorem sG:PS X (.Break pos) tBreak:=fun _ _ σ H _ I h=>wpAny_Break ⟨σ,H,I,h⟩
theorem jY:PS X (.Continue pos) tCont:=fun _ _ σ H _ I h=>wpAny_Continue ⟨σ,H,I,h⟩
theorem Inv.quiet {pins:List (Addr×Obj)} {σ:St} {H:Hp} {s:Shared} (I:Inv X pins σ H s):interactive X.env=false:=by simp [interactive,I.ok.kind]
noncomputable def tDrop (te:TE):TS:=fun D σ H=>te σ H fun _ H1=>D.nx σ H1
theorem gC (he:PE X e te) (hs:swapsWith e none pos.line X.env=pure false:=by rfl):PS X (.Expr e pos) (tDrop te):=by
 intro pins s σ H D I h
 exact wpAny_Expr_any (thn (he pins s σ H _ I h) fun v s1 ⟨x,H1,I1,r1,q1⟩=>⟨σ,H1,I1,q1⟩) I.quiet hs
noncomputable def tRet (te:TE):TS:=fun D σ H=>te σ H D.rt
theorem u8 (he:PE X e te):PS X (.Return (some e) pos) (tRet te):=by
 intro pins s σ H D I h
 exact wpAny_Return_some (thn (he pins s σ H _ I h) fun v s1 ⟨x,H1,I1,r1,q1⟩=>⟨x,σ,H1,I1,r1,q1⟩)
noncomputable def tRetN:TS:=fun D _ H=>D.rt .non H
theorem wL:PS X (.Return none pos) tRetN:=fun _ _ σ H _ I h=>wpAny_Return_none ⟨.non,σ,H,I,rfl,h⟩
noncomputable def tIfS (c:TT) (t u:TS):TS:=fun D σ H=>c σ H fun b H1=>if b=true then t D σ H1 else u D σ H1
theorem aC4 {c:Expr} {a b:List Stmt} {tc:TT} (hc:PT X c tc) (ha:PSs X a t) (hb:PSs X b u):PS X (.If c a b pos) (tIfS tc t u):=by
 intro pins s σ H D I h
 refine wpAny_If (thn (hc pins s σ H _ I h) fun d s1 hz_=> ?_)
 obtain⟨H1,I1,q1⟩:=hz_
 cases d with
 | true=>exact ha pins s1 σ H1 D I1 q1
 | false=>exact hb pins s1 σ H1 D I1 q1
end
abbrev TG:=V→St→Hp→(St→Hp→Prop)→Prop
abbrev TGs:=List V→St→Hp→(St→Hp→Prop)→Prop
def PG (X:Cx) (target:Expr) (t:TG):Prop:=
 ∀ (pins:List (Addr×Obj)) (s:Shared) (σ:St) (H:Hp) (v:V) (u:Value) (Q:St→Hp→Prop),Inv X pins σ H s→RelV v u→t v σ H Q→
  wpAny (model X.prog X.w) X.A (assign target X.env u) (fun _ s'=> ∃ σ' H',Inv X pins σ' H' s'∧Q σ' H') X.xe s
def PGs (X:Cx) (ts:List Expr) (t:TGs):Prop:=
 ∀ (pins:List (Addr×Obj)) (s:Shared) (σ:St) (H:Hp) (vs:List V) (us:List Value) (Q:St→Hp→Prop),Inv X pins σ H s→Vals vs us→t vs σ H Q→
  wpAny (model X.prog X.w) X.A (assignInOrder ((assignEach ts X.env).map (·.2)) us) (fun _ s'=> ∃ σ' H',Inv X pins σ' H' s'∧Q σ' H') X.xe s
abbrev TSet:=V→V→V→Hp→(Hp→Prop)→Prop
def PSet (X:Cx) (t:TSet):Prop:=
 ∀ (pins:List (Addr×Obj)) (s:Shared) (σ:St) (H:Hp) (o i v:V) (ov iv u:Value) (Q:Hp→Prop),Inv X pins σ H s→RelV o ov→RelV i iv→RelV v u→t o i v H Q→
  wpAny (model X.prog X.w) X.A (setItem ov iv u) (fun _ s'=> ∃ H',Inv X pins σ H' s'∧Q H') X.xe s
abbrev TIp:=V→V→Hp→VK→Prop
def PIp (X:Cx) (op:Operator) (t:TIp):Prop:=
 ∀ (pins:List (Addr×Obj)) (s:Shared) (σ:St) (H:Hp) (x y:V) (v u:Value) (Q:VK),Inv X pins σ H s→RelV x v→RelV y u→t x y H Q→
  wpAny (model X.prog X.w) X.A (inplaceOp op v u) (EP X pins σ Q) X.xe s
section
variable {X:Cx} {pos:Pos}
noncomputable def gName (i:Nat):TG:=fun v σ H Q=>Q (σ.set i (some v)) H
theorem eI {i:Nat} {x:Str} (hN:X.N.Nodup) (hi:X.N[i]? =some x) (hx:Loc X.env.scope x) (hf:X.fn x=true∨X.env.scope.names.lookup x=some .local:=by first | exact .inl rfl | exact .inr rfl | assumption):PG X (.Name x pos) (gName i):=by
 intro pins s σ H v u Q I r h
 exact wpAny_assign_Name (gA I hN hi hx r (fun s' I'=>⟨_,H,I',h⟩) hf)
noncomputable def gNil:TGs:=fun vs σ H Q=>vs=[]∧Q σ H
noncomputable def gCons (t:TG) (u:TGs):TGs:=fun vs σ H Q=> ∃ v r,vs=v::r∧t v σ H fun σ' H'=>u r σ' H' Q
theorem oA:PGs X [] gNil:=by
 intro pins s σ H vs us Q I r h
 obtain⟨e,h⟩:=h
 subst e
 cases r
 exact assignInOrder_nil ⟨σ,H,I,h⟩
theorem lE {e:Expr} {es:List Expr} {t:TG} {u:TGs} (h1:PG X e t) (h2:PGs X es u)
  (hs:(assignEach (e::es) X.env).map (·.2)=assign e X.env::(assignEach es X.env).map (·.2):=by rfl):PGs X (e::es) (gCons t u):=by
 intro pins s σ H vs us Q I r h
 obtain⟨v,vr,e1,h⟩:=h
 subst e1
 cases r with
 | cons r rr=>
  rw [hs]
  refine assignInOrder_cons (thn (h1 pins s σ H _ _ _ I r h) fun _ s1 hz_=> ?_)
  obtain⟨σ1,H1,I1,q1⟩:=hz_
  exact h2 pins s1 σ1 H1 _ _ Q I1 rr q1
noncomputable def gTup (K:PySem.W.Frag) (n:Nat) (t:TGs):TG:=fun v σ H Q=> ∃ a xs,v= .ref a∧SqT K H a xs∧xs.length=n∧t xs σ H Q
theorem u9 {es:List Expr} {k:Nat} {t:TGs} {n:Nat} (hc:X.calm=true) (h:PGs X es t)
  (hn:(assignEach es X.env).length=n:=by rfl) (hst:(assignEach es X.env).findIdx? (·.1)=none:=by rfl):PG X (.Tuple es k pos) (gTup X.K n t):=by
 intro pins s σ H v u Q I r hw
 obtain⟨a,xs,e1,hq,hl,hw⟩:=hw
 subst e1
 cases r
 obtain⟨its,rv,ht,hz⟩:=I.tuple hq
 refine assign_Tuple_tuple (I.ok.hd hc) ht (by simp [hn, ←hl,rv.length]) hst fun h' hx=> ?_
 have I1:Inv X pins σ H { s with heap:=h' }:=I.kept (t':=s.toks) fun b o e=>hx b o (Nat.ne_of_lt (Heap.lt_size e)) e
 exact h pins _ σ H xs _ Q I1 (by simpa using rv) hw
noncomputable def gSub (to ti:TE) (t:TSet):TG:=fun v σ H Q=>to σ H fun o H1=>ti σ H1 fun i H2=>t o i v H2 fun H3=>Q σ H3
theorem zY {o i:Expr} {to ti:TE} {t:TSet} (ho:PE X o to) (hi:PE X i ti) (hs:PSet X t)
  (ha: ∀ v,assign (.Subscript o i pos) X.env v=(do
   let ov←holding [v] (eval o X.env)
   let iv←holding [v,ov] (eval i X.env)
   standAt pos
   holding [v,ov,iv] (setItem ov iv v)
   release [v,ov,iv] []):=by intro _;rfl):PG X (.Subscript o i pos) (gSub to ti t):=by
 intro pins s σ H v u Q I r h
 rw [ha]
 refine wpAny_bind (wpAny_holding (thn (ho pins s σ H _ I h) fun ov s1 hz_=> ?_))
 obtain⟨x,H1,I1,r1,q1⟩:=hz_
 refine wpAny_bind (wpAny_holding (thn (hi pins s1 σ H1 _ I1 q1) fun iv s2 hz_=> ?_))
 obtain⟨y,H2,I2,r2,q2⟩:=hz_
 refine wpAny_bind (wpAny_standAt (wpAny_bind (wpAny_holding (thn (hs pins s2 σ H2 x y v ov iv u _ I2 r1 r2 r q2) fun _ s3 hz_=> ?_))))
 obtain⟨H3,I3,q3⟩:=hz_
 exact wpAny_release ⟨σ,H3,I3,q3⟩
noncomputable def tAsg (te:TE) (g:TG):TS:=fun D σ H=>te σ H fun x H1=>g x σ H1 D.nx
theorem vA {tg e:Expr} {te:TE} {g:TG} (he:PE X e te) (hg:PG X tg g) (hs:swapsWithSole [tg] e pos.line X.env=pure false:=by rfl) (hw:swappedStores [tg] e X.env=pure none:=by rfl)
  (h1:(assignEach [tg] X.env).map (·.2)=[assign tg X.env]:=by rfl):PS X (.Assign [tg] e pos) (tAsg te g):=by
 intro pins s σ H D I h
 refine wpAny_Assign_stores (thn (he pins s σ H _ I h) fun v s1 ⟨x,H1,I1,r1,q1⟩=> ?_) hs hw
 rw [h1]
 exact thn (hg pins s1 σ H1 x v _ I1 r1 q1) fun _ s2 q=>q
theorem oB {i:Nat} {x:Str} {e:Expr} {te:TE} {pos':Pos} (hN:X.N.Nodup) (hi:X.N[i]? =some x) (hx:Loc X.env.scope x) (he:PE X e te) (hs:swapsWith e (some (.Name x pos')) pos.line X.env=pure false:=by rfl) (hf:X.fn x=true∨X.env.scope.names.lookup x=some .local:=by first | exact .inl rfl | exact .inr rfl | assumption):
  PS X (.Assign [.Name x pos'] e pos) (tAsg te (gName i)):=by
 intro pins s σ H D I h
 refine wpAny_Assign_Name (thn (he pins s σ H _ I h) fun v s1 ⟨y,H1,I1,r1,q1⟩=> ?_) hs
 exact gA I1 hN hi hx r1 (fun s2 I2=>⟨_,H1,I2,q1⟩) hf
noncomputable def tAug (i:Nat) (te:TE) (ti:TIp):TS:=fun D σ H=> ∃ x,σ[i]? =some (some x)∧te σ H fun y H1=>ti x y H1 fun z H2=>D.nx (σ.set i (some z)) H2
theorem vB {i:Nat} {x:Str} {e:Expr} {te:TE} {op:Operator} {ti:TIp} {pos':Pos} (hN:X.N.Nodup) (hi:X.N[i]? =some x) (hx:Loc X.env.scope x) (he:PE X e te) (ho:PIp X op ti) (hf:X.fn x=true∨X.env.scope.names.lookup x=some .local:=by first | exact .inl rfl | exact .inr rfl | assumption):
  PS X (.AugAssign (.Name x pos') op e pos) (tAug i te ti):=by
 intro pins s σ H D I h
 obtain⟨v,e1,h⟩:=h
 obtain⟨m,hn,hl⟩:=I.loc
 have vis:Vis X.env.scope x:=by rcases hx with k | k;exact .inl k;exact .inr (.inl k)
 obtain⟨u,r,l⟩:=hl i x v hi e1 vis
 refine wpAny_AugAssign_Name ?_
 have go:wpAny (model X.prog X.w) X.A (eval e X.env) (fun w s₂=>wpAny (model X.prog X.w) X.A (inplaceOp op u w) (fun r s₃=>wpAny (model X.prog X.w) X.A (storeName X.env x r) (fun _=>SP X pins D .next) X.xe s₃) X.xe s₂) X.xe s:=by
  refine thn (he pins s σ H _ I h) fun w s1 hz_=> ?_
  obtain⟨y,H1,I1,r1,q1⟩:=hz_
  refine thn (ho pins s1 σ H1 v y u w _ I1 r r1 q1) fun z s2 hz_=> ?_
  obtain⟨zv,H2,I2,r2,q2⟩:=hz_
  exact gA I2 hN hi hx r2 (fun s3 I3=>⟨_,H2,I3,q2⟩) hf
 rcases l with ⟨hk,hm⟩ | ⟨hk,c,hc,hcell⟩
 ·exact wpAny_loadName_local I.ok.kind hk hn hm go
 ·rcases hk with hk | hk
  ·exact wpAny_loadName_cell I.ok.kind hk hc hcell go
  ·rcases hx with k | k
   ·have:X.env.scope.names.lookup x=some .free:=hk
    rw [k] at this;cases this
   ·have:X.env.scope.names.lookup x=some .free:=hk
    rw [k] at this;cases this
noncomputable def tAugS (to ti te:TE) (tget:V→V→Hp→VK→Prop) (tip:TIp) (tset:TSet):TS:=fun D σ H=>to σ H fun o H1=>ti σ H1 fun i H2=>tget o i H2 fun x H3=>te σ H3 fun y H4=>tip x y H4 fun z H5=>tset o i z H5 fun H6=>D.nx σ H6
def PGet (X:Cx) (t:V→V→Hp→VK→Prop):Prop:=
 ∀ (pins:List (Addr×Obj)) (s:Shared) (σ:St) (H:Hp) (o i:V) (ov iv:Value) (Q:VK),Inv X pins σ H s→RelV o ov→RelV i iv→t o i H Q→
  wpAny (model X.prog X.w) X.A (getItem ov iv) (EP X pins σ Q) X.xe s
theorem wM {o i e:Expr} {to ti te:TE} {tget:V→V→Hp→VK→Prop} {tip:TIp} {tset:TSet} {op:Operator} {tpos:Pos} (ho:PE X o to) (hi:PE X i ti) (hg:PGet X tget) (he:PE X e te) (hp:PIp X op tip) (hs:PSet X tset)
  (ha: ∀ ov iv new,augStore i ov iv new=(do holding [new,ov,iv] (setItem ov iv new);release [new,ov,iv] [];pure .next):=by intros;rfl):PS X (.AugAssign (.Subscript o i tpos) op e pos) (tAugS to ti te tget tip tset):=by
 intro pins s σ H D I h
 refine wpAny_AugAssign_SubscriptAny (thn (ho pins s σ H _ I h) fun ov s1 ⟨x1,H1,I1,r1,q1⟩=> ?_) ha
 refine thn (hi pins s1 σ H1 _ I1 q1) fun iv s2 hz_=> ?_
 obtain⟨x2,H2,I2,r2,q2⟩:=hz_
 refine thn (hg pins s2 σ H2 x1 x2 ov iv _ I2 r1 r2 q2) fun old s3 hz_=> ?_
 obtain⟨x3,H3,I3,r3,q3⟩:=hz_
 refine thn (he pins s3 σ H3 _ I3 q3) fun v s4 hz_=> ?_
 obtain⟨x4,H4,I4,r4,q4⟩:=hz_
 refine thn (hp pins s4 σ H4 x3 x4 old v _ I4 r3 r4 q4) fun new s5 hz_=> ?_
 obtain⟨x5,H5,I5,r5,q5⟩:=hz_
 exact thn (hs pins s5 σ H5 x1 x2 x5 ov iv new _ I5 r1 r2 r5 q5) fun _ s6 ⟨H6,I6,q6⟩=>⟨σ,H6,I6,q6⟩
noncomputable def ipI (f:Int→Int→Int):TIp:=fun x y H Q=> ∃ i j,x= .int i∧y= .int j∧Q (.int (f i j)) H
theorem vC:PIp X .Add (ipI fun i j=>i+j):=by
 intro pins s σ H x y v u Q I r1 r2 h
 obtain⟨i,j,e1,e2,q⟩:=h
 subst e1;subst e2
 obtain⟨t,rfl⟩:=r1
 obtain⟨t',rfl⟩:=r2
 exact iadd_int ⟨.int _,H,I.tok _,⟨_,rfl⟩,q⟩
theorem zZ:PIp X .Sub (ipI fun i j=>i - j):=by
 intro pins s σ H x y v u Q I r1 r2 h
 obtain⟨i,j,e1,e2,q⟩:=h
 subst e1;subst e2
 obtain⟨t,rfl⟩:=r1
 obtain⟨t',rfl⟩:=r2
 exact isub_int ⟨.int _,H,I.tok _,⟨_,rfl⟩,q⟩
end
section
variable {X:Cx} {pos:Pos}
noncomputable def tWhile (c:TT) (tb:TS):TS:=fun D σ H=> ∃ W:Nat→St→Hp→Prop,(∃ m,W m σ H)∧ ∀ m σ H,W m σ H→
 c σ H fun b H1=>if b=true then ∃ N:St→Hp→Prop,(∀ σ' H',N σ' H'→ ∃ m',m'<m∧W m' σ' H')∧tb { D with nx:=N,ct:=N,bk:=D.nx } σ H1 else D.nx σ H1
theorem sH {c:Expr} {body:List Stmt} {tc:TT} {tb:TS} (hp:PassesOwn (model X.prog X.w) X.A X.env X.xe) (hc:PT X c tc) (hb:PSs X body tb):PS X (.While c body [] pos) (tWhile tc tb):=by
 intro pins s σ H D I h
 obtain⟨W,⟨m0,w0⟩,turn⟩:=h
 refine wpAny_While (codeAny_whileLoop (fun n s'=> ∃ σ' H',Inv X pins σ' H' s'∧W n σ' H') ?_ m0 ⟨σ,H,I,w0⟩)
 rintro n s1 ⟨σ1,H1,I1,w1⟩
 refine wpAny_passesOwn hp (thn (hc pins s1 σ1 H1 _ I1 (turn n σ1 H1 w1)) fun b s2 hz_=> ?_)
 obtain⟨H2,I2,q2⟩:=hz_
 cases b with
 | true=>
  obtain⟨N,hN,q2⟩:=q2
  rw [if_pos rfl]
  refine wpAny_passesOwn hp (thn (hb pins s2 σ1 H2 _ I2 q2) fun f s3 q3=> ?_)
  cases f with
  | next=>
   obtain⟨σ3,H3,I3,n3⟩:=q3
   obtain⟨m',hm,w3⟩:=hN σ3 H3 n3
   exact⟨m',hm,σ3,H3,I3,w3⟩
  | cont=>
   obtain⟨σ3,H3,I3,n3⟩:=q3
   obtain⟨m',hm,w3⟩:=hN σ3 H3 n3
   exact⟨m',hm,σ3,H3,I3,w3⟩
  | brk=>exact q3
  | ret v=>exact q3
 | false=>
  rw [if_neg Bool.false_ne_true]
  exact wpAny_execs_nil ⟨σ1,H2,I2,q2⟩
end
structure It where
 go:Nat→Hp→Prop
 yld:Nat→Hp→V→Hp→Prop
 stop:Nat→Hp→Prop
def FpOk (X:Cx) (pins:List (Addr×Obj)) (H:Hp) (b:Addr):Prop:=
 H b=none∧b≠X.env.locals∧b∉X.fs∧(b∈X.ex∨X.s₀.heap.objs.size≤b)∧(∀ x c,X.env.cells.lookup x=some c→c≠b)∧ ∀ p∈X.pn++pins,p.1≠b
theorem Inv.fpOk {X:Cx} {pins:List (Addr×Obj)} {σ:St} {H H':Hp} {s:Shared} {b:Addr} (I:Inv X pins σ H s) (hb:s.heap.objs.size≤b) (hn:H' b=none):FpOk X pins H' b:=by
 refine⟨hn,Nat.ne_of_gt (Nat.lt_of_lt_of_le I.lt hb),I.nofs hb, .inr (Nat.le_trans I.sz hb),fun x c e z=> ?_,fun p hp z=> ?_⟩
 ·obtain⟨v,q⟩:=I.cell x c e
  exact absurd (Nat.lt_of_lt_of_le q.lt (by rw [z];exact hb)) (Nat.lt_irrefl _)
 ·exact absurd (Nat.lt_of_lt_of_le (Heap.lt_size (I.pin p hp).1) (by rw [z];exact hb)) (Nat.lt_irrefl _)
structure Turn (P:Program) (w:World) (K:PySem.W.Frag) (tg:Expr) (J:It) (fp:List Addr) (it:Addr) (tn:Nat→Heap→Prop):Prop where
 mem:it∈fp
 obj: ∀ i h,tn i h→ ∀ b∈fp, ∃ o,h.get? b=some o∧ ∀ v,o.data≠ .cell v
 keep: ∀ i h h',tn i h→(∀ b∈fp, ∀ o,h.get? b=some o→h'.get? b=some o)→tn i h'
 item: ∀ (X:Cx),X.prog=P→X.w=w→X.K=K→X.calm=true→ ∀ (i:Nat) (pins:List (Addr×Obj)) (s:Shared) (σ:St) (H:Hp) (E:Value→Shared→Prop),Inv X pins σ H s→(∀ b∈fp,FpOk X pins H b)→tn i s.heap→J.go i H→
  wpAny (model P w) X.A (pyNext (.ref it)) (fun r s1=> ∃ u,r=some u∧
   wpAny (model P w) X.A (letOwnedTupleGo tg (.ref it) u) (fun _ s2=> ∃ x H',Inv X pins σ H' s2∧RelV x u∧J.yld i H x H'∧tn (i+1) s2.heap∧ ∀ b∈fp,H' b=none) E s1) E s
 done: ∀ (X:Cx),X.prog=P→X.w=w→X.K=K→X.calm=true→ ∀ (i:Nat) (pins:List (Addr×Obj)) (s:Shared) (σ:St) (H:Hp) (E:Value→Shared→Prop),Inv X pins σ H s→(∀ b∈fp,FpOk X pins H b)→tn i s.heap→J.stop i H→
  wpAny (model P w) X.A (pyNext (.ref it)) (fun r s1=>r=none∧Inv X pins σ H s1) E s
 self: ∀ (A:Around) (i:Nat) (s:Shared) (Q:Value→Shared→Prop) (E:Value→Shared→Prop),tn i s.heap→Q (.ref it) s→wpAny (model P w) A (pyIter (.ref it)) Q E s
abbrev TI:=St→Hp→(It→Hp→Prop)→Prop
def PIE (X:Cx) (pins:List (Addr×Obj)) (σ:St) (tg:Expr) (R:It→Hp→Prop) (itv:Value) (s2:Shared):Prop:=
 ∃ (it:Addr) (fp:List Addr) (tn:Nat→Heap→Prop) (J:It) (H':Hp),itv= .ref it∧Inv X pins σ H' s2∧Turn X.prog X.w X.K tg J fp it tn∧tn 0 s2.heap∧(∀ b∈fp,FpOk X pins H' b)∧R J H'
def PI (X:Cx) (tg iter:Expr) (wi:TI):Prop:=
 ∀ (pins:List (Addr×Obj)) (s:Shared) (σ:St) (H:Hp) (R:It→Hp→Prop),Inv X pins σ H s→wi σ H R→
  wpAny (model X.prog X.w) X.A (eval iter X.env) (fun v s1=>wpAny (model X.prog X.w) X.A (pyIter v) (PIE X pins σ tg R) X.xe s1) X.xe s
theorem sI {M:Model} {A:Around} {E:Value→Shared→Prop} {s:Shared} {tg:Expr} {it:Addr} {u:Value} {o:Obj} {n:String} {vs:Array Value} {Q:Unit→Shared→Prop} (ho:s.heap.get? it=some o) (hc:o.cls= .type n) (hd:o.data= .fields vs)
  (hn:["enumerate","zip","dict_itemiterator","dict_reverseitemiterator","odict_iterator","itertools.zip_longest","itertools.pairwise"].contains n=false) (hQ:Q () s):wpAny M A (letOwnedTupleGo tg (.ref it) u) Q E s:=by
 unfold letOwnedTupleGo
 cases tg<;>first
  | exact wpAny_pure hQ
  | (cases u<;>first
    | exact wpAny_pure hQ
    | (refine wpAny_bind (wpAny_load ho ?_)
       rw [hc,hd]
       show wpAny M A (if(["enumerate","zip","dict_itemiterator","dict_reverseitemiterator","odict_iterator","itertools.zip_longest","itertools.pairwise"].contains n&&vs[0]? ==some (rawInt _))=true then _ else _) Q E s
       rw [if_neg (by intro h;rw [hn,Bool.false_and] at h;cases h)]
       exact wpAny_pure hQ))
noncomputable def Itl (K:PySem.W.Frag) (a:Addr):It:=
 ⟨fun i H=> ∃ xs x,SqL K H a xs∧xs[i]? =some x,fun i H x H'=>H'=H∧ ∀ xs,SqL K H a xs→xs[i]? =some x,fun i H=> ∃ xs,SqL K H a xs∧xs.length≤i⟩
noncomputable def Itt (K:PySem.W.Frag) (a:Addr):It:=
 ⟨fun i H=> ∃ xs x,SqT K H a xs∧xs[i]? =some x,fun i H x H'=>H'=H∧ ∀ xs,SqT K H a xs→xs[i]? =some x,fun i H=> ∃ xs,SqT K H a xs∧xs.length≤i⟩
noncomputable def Itr (lo:Int) (n:Nat):It:=⟨fun i _=>i<n,fun i H x H'=>H'=H∧x= .int (lo+i),fun i _=>n≤i⟩
theorem iF {P:Program} {w:World} {K:PySem.W.Frag} {tg:Expr} (a it:Addr):Turn P w K tg (Itl K a) [it] it (fun i h=>h.IsListIter it a i) where
 mem:=by simp
 obj:=fun i h st b hb=>by
  have e:b=it:=by simpa using hb
  subst e
  obtain⟨o,e,c,d⟩:=st
  exact⟨o,e,fun v z=>by rw [d] at z;cases z⟩
 keep:=fun i h h' st k=>st.at fun o e=>k it (by simp) o e
 item:=by
  intro X hP hw hK hc i pins s σ H E I hf st hg
  subst hP hw hK
  obtain⟨xs,x,hq,hx⟩:=hg
  obtain⟨its,rv,p,hz⟩:=I.list hq
  obtain⟨u,hu,ru⟩:=rv.get hx
  obtain⟨f0,f1,f2,f3,f4,f5⟩:=hf it (by simp)
  refine wpAny_pyNext_list_item st p.isList (x:=u) (by simpa using hu) fun h' st' sb=> ?_
  have I1:Inv X pins σ H { s with heap:=h' }:=I.turned (t':=s.toks) (fun b o hb e=>(sb.2 b hb).trans e) f0 f1 f3 f4 f5
  obtain⟨o,e,c,d⟩:=id st'
  exact⟨u,rfl,sI (s:={ s with heap:=h' }) e c d (by decide) ⟨x,H,I1,ru,⟨rfl,fun ys hy=>by rw [I.list_inj hy hq];exact hx⟩,st',fun b hb=>(hf b hb).1⟩⟩
 done:=by
  intro X hP hw hK hc i pins s σ H E I hf st hg
  subst hP hw hK
  obtain⟨xs,hq,hx⟩:=hg
  obtain⟨its,rv,p,hz⟩:=I.list hq
  obtain⟨f0,f1,f2,f3,f4,f5⟩:=hf it (by simp)
  have hl:=rv.length
  exact wpAny_pyNext_list_end (I.ok.hd hc) st p.isList (by simp;omega) fun h' eb=>⟨rfl,I.turned (t':=s.toks) (fun b o hb e=>eb b o hb e) f0 f1 f3 f4 f5⟩
 self:=fun _ _ _ _ _ st h=>wpAny_pyIter_listiter st h
theorem fH {P:Program} {w:World} {K:PySem.W.Frag} {tg:Expr} (a it:Addr):Turn P w K tg (Itt K a) [it] it (fun i h=>h.IsTupleIter it a i) where
 mem:=by simp
 obj:=fun i h st b hb=>by
  have e:b=it:=by simpa using hb
  subst e
  obtain⟨o,e,c,d⟩:=st
  exact⟨o,e,fun v z=>by rw [d] at z;cases z⟩
 keep:=fun i h h' st k=>st.at fun o e=>k it (by simp) o e
 item:=by
  intro X hP hw hK hc i pins s σ H E I hf st hg
  subst hP hw hK
  obtain⟨xs,x,hq,hx⟩:=hg
  obtain⟨its,rv,p,hz⟩:=I.tuple hq
  obtain⟨u,hu,ru⟩:=rv.get hx
  obtain⟨f0,f1,f2,f3,f4,f5⟩:=hf it (by simp)
  refine wpAny_pyNext_tuple_item st (show s.heap.IsTuple a its.toArray from p) (x:=u) (by simpa using hu) fun h' st' sb=> ?_
  have I1:Inv X pins σ H { s with heap:=h' }:=I.turned (t':=s.toks) (fun b o hb e=>(sb.2 b hb).trans e) f0 f1 f3 f4 f5
  obtain⟨o,e,c,d⟩:=id st'
  exact⟨u,rfl,sI (s:={ s with heap:=h' }) e c d (by decide) ⟨x,H,I1,ru,⟨rfl,fun ys hy=>by rw [I.tuple_inj hy hq];exact hx⟩,st',fun b hb=>(hf b hb).1⟩⟩
 done:=by
  intro X hP hw hK hc i pins s σ H E I hf st hg
  subst hP hw hK
  obtain⟨xs,hq,hx⟩:=hg
  obtain⟨its,rv,p,hz⟩:=I.tuple hq
  obtain⟨f0,f1,f2,f3,f4,f5⟩:=hf it (by simp)
  have hl:=rv.length
  exact wpAny_pyNext_tuple_end (I.ok.hd hc) st (show s.heap.IsTuple a its.toArray from p) (by simp;omega) fun h' eb=>⟨rfl,I.turned (t':=s.toks) (fun b o hb e=>eb b o hb e) f0 f1 f3 f4 f5⟩
 self:=fun _ _ _ _ _ st h=>wpAny_pyIter_tupleiter st h
theorem nC {P:Program} {w:World} {K:PySem.W.Frag} {tg:Expr} (it:Addr) (lo:Int) (n:Nat):Turn P w K tg (Itr lo n) [it] it (fun i h=>IsRangeIter h it (lo+(i:Nat) * 1) ((n:Int) - (i:Nat)) 1) where
 mem:=by simp
 obj:=fun i h st b hb=>by
  have e:b=it:=by simpa using hb
  subst e
  exact⟨_,st,fun v z=>by
   have z':Data.fields _=Data.cell v:=z
   cases z'⟩
 keep:=fun i h h' st k=>k it (by simp) _ st
 item:=by
  intro X hP hw hK hc i pins s σ H E I hf st hg
  subst hP hw hK
  obtain⟨f0,f1,f2,f3,f4,f5⟩:=hf it (by simp)
  have W:=Walks.range (prog:=X.prog) (w:=X.w) (I.ok.hd hc) it lo 1 n
  refine W.item i s _ _ hg st fun v h' tk hv st' kk=> ?_
  obtain⟨t,rfl⟩:=hv
  have I1:Inv X pins σ H { s with heap:=h',toks:=tk }:=I.turned (fun b o hb e=>kk b o (by simpa using hb) e) f0 f1 f3 f4 f5
  refine⟨_,rfl,sI (s:={ s with heap:=h',toks:=tk }) (n:="range_iterator") st' rfl rfl (by decide) ⟨.int (lo+i),H,I1,⟨t, ?_⟩,⟨rfl,rfl⟩,st',fun b hb=>(hf b hb).1⟩⟩
  rw [Int.mul_one]
 done:=by
  intro X hP hw hK hc i pins s σ H E I hf st hg
  subst hP hw hK
  obtain⟨f0,f1,f2,f3,f4,f5⟩:=hf it (by simp)
  exact wpAny_pyNext_range_end (I.ok.hd hc) st (by have:n≤i:=hg;omega) fun h' eb=>⟨rfl,I.turned (t':=s.toks) (fun b o hb e=>eb b o hb e) f0 f1 f3 f4 f5⟩
 self:=fun _ _ _ _ _ st h=>wpAny_pyIter_rangeiter st h
section
variable {X:Cx} {tg:Expr}
theorem sJ {pins:List (Addr×Obj)} {σ:St} {H:Hp} {s:Shared} {R:It→Hp→Prop} {E:Value→Shared→Prop} {lo hi:Int} {t u v:Tok} {tk:Nat} (I:Inv X pins σ H s) (h1: -(2 ^ 62)≤lo) (h2:lo<2 ^ 62) (h3: -(2 ^ 62)≤hi) (h4:hi<2 ^ 62)
  (q:R (Itr lo (hi - lo).toNat) H):wpAny (model X.prog X.w) X.A (pyIter (.ref s.heap.objs.size)) (PIE X pins σ tg R) E { s with heap:=s.heap.push { cls:= .type "range",data:= .fields #[.int lo t, .int hi u, .int 1 v] },toks:=tk }:=by
 refine wpAny_pyIter_range (IsRange.new ..) (small_one h1 h2 h3 h4) ?_
 have I1:Inv X pins σ H { s with heap:=s.heap.push { cls:= .type "range",data:= .fields #[.int lo t, .int hi u, .int 1 v] },toks:=tk }:=I.kept fun b o e=>Heap.get?_push_of_some _ e
 refine⟨(s.heap.push { cls:= .type "range",data:= .fields #[.int lo t, .int hi u, .int 1 v] }).objs.size,[(s.heap.push { cls:= .type "range",data:= .fields #[.int lo t, .int hi u, .int 1 v] }).objs.size],_,_,H,rfl,
  I1.kept (t':=tk) fun b o e=>Heap.get?_push_of_some _ e,nC _ lo (hi - lo).toNat, ?_,fun b hb=> ?_,q⟩
 ·have e1:lo+((0:Nat):Int) * 1=lo:=by simp
  have e2:(((hi - lo).toNat:Nat):Int) - ((0:Nat):Int)=Builtin.Range.rangeSize lo hi 1:=by rw [rangeSize_one];split<;>omega
  show IsRangeIter _ _ (lo+((0:Nat):Int) * 1) ((((hi - lo).toNat:Nat):Int) - ((0:Nat):Int)) 1
  rw [e1,e2]
  exact Heap.get?_push_size _ rfl
 ·have e:b=(s.heap.push { cls:= .type "range",data:= .fields #[.int lo t, .int hi u, .int 1 v] }).objs.size:=by simpa using hb
  subst e
  exact I1.fpOk (Nat.le_refl _) (I1.hok.fresh (Nat.le_refl _))
noncomputable def iRng1 (ta:TA):TI:=fun σ H R=>ta σ H fun vs H1=> ∃ j:Int,vs=[.int j]∧ -(2 ^ 62)≤j∧j<2 ^ 62∧R (Itr 0 j.toNat) H1
theorem iG {a:Expr} {ta:TA} {p pos:Pos} (hg:Gl X "range") (hm:X.mg "range"=none) (ha:PA X [a] ta) (hs:starEach [a] X.env=[(false,eval a X.env)]:=by rfl):PI X tg (.Call (.Name "range" p) [a] [] pos) (iRng1 ta):=by
 intro pins s σ H R I h
 refine Call_ (bM I hg hm boot_range (PyProof.Rows.callWith_type1 (thn (ha pos pins s σ H _ I h) fun us s1 ⟨vs,H1,I1,r1,q1⟩=> ?_) hs rfl))
 obtain⟨j,e,q1,q2,q⟩:=q1
 subst e
 cases r1 with
 | cons r rr=>
  cases rr
  obtain⟨t,rfl⟩:=r
  exact call_range_1 (sJ I1 (by omega) (by omega) q1 q2 (by simpa using q))
noncomputable def tFor (wi:TI) (g:TG) (tb:TS):TS:=fun D σ H=>wi σ H fun J H1=> ∃ W:Nat→Nat→St→Hp→Prop,(∃ m,W 0 m σ H1)∧ ∀ i m σ H,W i m σ H→
 (J.stop i H∧D.nx σ H)∨(J.go i H∧ ∃ N:St→Hp→Prop,(∀ σ' H',N σ' H'→ ∃ m',m'<m∧W (i+1) m' σ' H')∧ ∀ x H',J.yld i H x H'→g x σ H' fun σ2 H2=>tb { D with nx:=N,ct:=N,bk:=D.nx } σ2 H2)
noncomputable def pinsAt (fp:List Addr) (h:Heap):List (Addr×Obj):=fp.filterMap fun b=>(h.get? b).map fun o=>(b,o)
theorem cG {fp:List Addr} {h:Heap} {b:Addr} {o:Obj} (hb:b∈fp) (e:h.get? b=some o):(b,o)∈pinsAt fp h:=List.mem_filterMap.mpr ⟨b,hb,by rw [e];rfl⟩
theorem oC {fp:List Addr} {h:Heap} {p:Addr×Obj} (hp:p∈pinsAt fp h):p.1∈fp∧h.get? p.1=some p.2:=by
 obtain⟨b,hb,e⟩:=List.mem_filterMap.mp hp
 cases q:h.get? b with
 | none=>rw [q] at e;cases e
 | some o=>
  rw [q] at e
  have e':(b,o)=p:=Option.some.inj e
  subst e'
  exact⟨hb,q⟩
theorem Inv.pinned {pins:List (Addr×Obj)} {σ:St} {H:Hp} {s:Shared} {fp:List Addr} (I:Inv X pins σ H s) (hf: ∀ b∈fp,FpOk X pins H b) (ho: ∀ b∈fp, ∃ o,s.heap.get? b=some o∧ ∀ v,o.data≠ .cell v):Inv X (pins++pinsAt fp s.heap) σ H s:=
 I.pins_of fun p hp=>(List.mem_append.mp hp).elim (fun z=>I.pin p (List.mem_append_right _ z)) fun z=>by
  obtain⟨hb,e⟩:=oC z
  obtain⟨f0,f1,f2,_⟩:=hf p.1 hb
  obtain⟨o,e',d⟩:=ho p.1 hb
  rw [e] at e';cases e'
  exact⟨e,f0,f1,f2,d⟩
theorem Inv.unpinned {pins pl:List (Addr×Obj)} {σ:St} {H:Hp} {s:Shared} (I:Inv X (pins++pl) σ H s):Inv X pins σ H s:=I.pins_of fun p hp=>I.pin p (List.mem_append_right _ (List.mem_append_left _ hp))
theorem z9 {iter:Expr} {body:List Stmt} {wi:TI} {g:TG} {tb:TS} {pos:Pos} (hp:PassesOwn (model X.prog X.w) X.A X.env X.xe) (hc:X.calm=true) (hi:PI X tg iter wi) (hg:PG X tg g) (hb:PSs X body tb)
  (hs: ∀ x,foldedSetIterable iter X.env x=pure x:=by intro _;rfl):PS X (.For tg iter body [] pos) (tFor wi g tb):=by
 intro pins s σ H D I h
 refine wpAny_For (thn (hi pins s σ H _ I h) fun v s1 h1=>thn h1 fun itv s2 h2=> ?_) hs
 obtain⟨it,fp,tn,J,H2,e,I2,T,st2,f2,W,⟨m0,w0⟩,turn⟩:=h2
 subst e
 -- what stays true of the iterator's objects through the loop
 have stat: ∀ {H':Hp},(∀ b∈fp,H' b=none)→ ∀ b∈fp,FpOk X pins H' b:=fun hn b hb=>⟨hn b hb,(f2 b hb).2⟩
 refine codeAny_forLoop_any (fun n s'=> ∃ i σ' H',Inv X pins σ' H' s'∧tn i s'.heap∧(∀ b∈fp,H' b=none)∧W i n σ' H') ?_ m0 ⟨0,σ,H2,I2,st2,fun b hb=>(f2 b hb).1,w0⟩
 rintro n s3 ⟨i,σ3,H3,I3,st3,fr3,w3⟩
 rcases turn i n σ3 H3 w3 with ⟨stop,qn⟩ | ⟨go,N,hN,step⟩
 ·refine wpAny_passesOwn hp (thn (T.done X rfl rfl rfl hc i pins s3 σ3 H3 X.xe I3 (stat fr3) st3 stop) fun r s4 hz_=> ?_)
  obtain⟨hr,I4⟩:=hz_
  subst hr
  exact wpAny_execs_nil ⟨σ3,H3,I4,qn⟩
 ·refine wpAny_passesOwn hp (thn (T.item X rfl rfl rfl hc i pins s3 σ3 H3 X.xe I3 (stat fr3) st3 go) fun r s4 hz_=> ?_)
  obtain⟨u,hr,h4⟩:=hz_
  subst hr
  refine wpAny_passesOwn hp (thn h4 fun _ s5 hz_=> ?_)
  obtain⟨x,H5,I5,r5,y5,st5,fr5⟩:=hz_
  have I5':=I5.pinned (stat fr5) (T.obj _ _ st5)
  refine wpAny_passesOwn hp (thn (hg _ s5 σ3 H5 x u _ I5' r5 (step x H5 y5)) fun _ s6 hz_=> ?_)
  obtain⟨σ6,H6,I6,q6⟩:=hz_
  refine wpAny_passesOwn hp (thn (hb _ s6 σ6 H6 _ I6 q6) fun f s7 q7=> ?_)
  have again: ∀ {σ7:St} {H7:Hp},Inv X (pins++pinsAt fp s5.heap) σ7 H7 s7→N σ7 H7→ ∃ m,m<n∧ ∃ i σ' H',Inv X pins σ' H' s7∧tn i s7.heap∧(∀ b∈fp,H' b=none)∧W i m σ' H':=fun {σ7 H7} I7 n7=>by
   obtain⟨m',hm,w7⟩:=hN σ7 H7 n7
   refine⟨m',hm,i+1,σ7,H7,I7.unpinned,T.keep _ _ _ st5 fun b hb o e=>(I7.pin (b,o) (List.mem_append_right _ (List.mem_append_right _ (cG hb e)))).1,fun b hb=> ?_,w7⟩
   obtain⟨o,e,d⟩:=T.obj _ _ st5 b hb
   exact(I7.pin (b,o) (List.mem_append_right _ (List.mem_append_right _ (cG hb e)))).2.1
  cases f with
  | next=>obtain⟨σ7,H7,I7,n7⟩:=q7;exact again I7 n7
  | cont=>obtain⟨σ7,H7,I7,n7⟩:=q7;exact again I7 n7
  | brk=>obtain⟨σ7,H7,I7,q7⟩:=q7;exact⟨σ7,H7,I7.unpinned,q7⟩
  | ret v=>obtain⟨x7,σ7,H7,I7,r7,q7⟩:=q7;exact⟨x7,σ7,H7,I7.unpinned,r7,q7⟩
end
abbrev R2:=V→V→Hp→VK→Prop
def OpR (X:Cx) (f:Value→Value→Sem Value) (r:R2):Prop:=
 ∀ (pins:List (Addr×Obj)) (s:Shared) (σ:St) (H:Hp) (x y:V) (v u:Value) (Q:VK),Inv X pins σ H s→RelV x v→RelV y u→r x y H Q→
  wpAny (model X.prog X.w) X.A (f v u) (EP X pins σ Q) X.xe s
def UnR (X:Cx) (f:Value→Sem Value) (r:V→Hp→VK→Prop):Prop:=
 ∀ (pins:List (Addr×Obj)) (s:Shared) (σ:St) (H:Hp) (x:V) (v:Value) (Q:VK),Inv X pins σ H s→RelV x v→r x H Q→
  wpAny (model X.prog X.w) X.A (f v) (EP X pins σ Q) X.xe s
def CallR (X:Cx) (f:Value) (r:List V→Hp→VK→Prop):Prop:=
 ∀ (pins:List (Addr×Obj)) (s:Shared) (σ:St) (H:Hp) (xs:List V) (us:List Value) (Q:VK),Inv X pins σ H s→Vals xs us→r xs H Q→
  wpAny (model X.prog X.w) X.A (call f us) (EP X pins σ Q) X.xe s
noncomputable def tUn (r:V→Hp→VK→Prop) (ta:TE):TE:=fun σ H Q=>ta σ H fun x H1=>r x H1 Q
noncomputable def rI (C:Int→Int→Prop) (g:Int→Int→V):R2:=fun x y H Q=> ∃ i j,x= .int i∧y= .int j∧C i j∧Q (g i j) H
noncomputable def rI0 (g:Int→Int→V):R2:=fun x y H Q=> ∃ i j,x= .int i∧y= .int j∧Q (g i j) H
noncomputable def rU (g:Int→V):V→Hp→VK→Prop:=fun x H Q=> ∃ i,x= .int i∧Q (g i) H
section
variable {X:Cx} {a b c:Expr} {ta tb tc:TE} {pos:Pos}
theorem aC5 {op:UnaryOp} {r:V→Hp→VK→Prop} (ho:UnR X (unaryOp op) r) (ha:PE X a ta):PE X (.UnaryOp op a pos) (tUn r ta):=by
 intro pins s σ H Q I h
 exact UnaryOp_ (thn (ha pins s σ H _ I h) fun v s1 ⟨x,H1,I1,r1,q1⟩=>ho pins s1 σ H1 x v Q I1 r1 q1)
theorem opI {f:Value→Value→Sem Value} {C:Int→Int→Prop} {g:Int→Int→Int}
  (rule: ∀ (i j:Int) (t u:Tok) (s:Shared) (Q:Value→Shared→Prop) (E:Value→Shared→Prop),C i j→Q (.int (g i j) s.toks) { s with toks:=s.toks+1 }→wpAny (model X.prog X.w) X.A (f (.int i t) (.int j u)) Q E s):
  OpR X f (rI C fun i j=> .int (g i j)):=by
 intro pins s σ H x y v u Q I rx ry h
 obtain⟨i,j,rfl,rfl,hc,q⟩:=h
 obtain⟨t,rfl⟩:=rx
 obtain⟨t',rfl⟩:=ry
 exact rule i j t t' s _ _ hc ⟨.int (g i j),H,I.tok _,⟨_,rfl⟩,q⟩
theorem opI0 {f:Value→Value→Sem Value} {g:Int→Int→Int}
  (rule: ∀ (i j:Int) (t u:Tok) (s:Shared) (Q:Value→Shared→Prop) (E:Value→Shared→Prop),Q (.int (g i j) s.toks) { s with toks:=s.toks+1 }→wpAny (model X.prog X.w) X.A (f (.int i t) (.int j u)) Q E s):
  OpR X f (rI0 fun i j=> .int (g i j)):=by
 intro pins s σ H x y v u Q I rx ry h
 obtain⟨i,j,rfl,rfl,q⟩:=h
 obtain⟨t,rfl⟩:=rx
 obtain⟨t',rfl⟩:=ry
 exact rule i j t t' s _ _ ⟨.int (g i j),H,I.tok _,⟨_,rfl⟩,q⟩
theorem opB0 {f:Value→Value→Sem Value} {g:Int→Int→Bool}
  (rule: ∀ (i j:Int) (t u:Tok) (s:Shared) (Q:Value→Shared→Prop) (E:Value→Shared→Prop),Q (.bool (g i j)) s→wpAny (model X.prog X.w) X.A (f (.int i t) (.int j u)) Q E s):
  OpR X f (rI0 fun i j=> .bl (g i j)):=by
 intro pins s σ H x y v u Q I rx ry h
 obtain⟨i,j,rfl,rfl,q⟩:=h
 obtain⟨t,rfl⟩:=rx
 obtain⟨t',rfl⟩:=ry
 exact rule i j t t' s _ _ ⟨.bl (g i j),H,I,rfl,q⟩
def CDiv (i j:Int):Prop:=0<j∧j<1073741824
def CPow (i j:Int):Prop:=0≤j∧j≤1000000∧i.natAbs<2 ^ 64
def CMul (i j:Int):Prop:=(-(2 ^ 64)<i∧i<2 ^ 64)∨(-(2 ^ 64)<j∧j<2 ^ 64)
theorem CMul.ok {i j:Int} (h:CMul i j):IntMulOk i j:=by
 rcases h with ⟨h1,h2⟩ | ⟨h1,h2⟩
 ·exact .of_left (intBits_le_64 h1 h2)
 ·exact .of_right (intBits_le_64 h1 h2)
theorem nD (k:Nat):(0:Int)≤2 ^ k:=by
 rw [two_pow_cast]
 exact Int.natCast_nonneg _
theorem aAa:OpR X (binaryOp .Add) (rI0 fun i j=> .int (i+j)):=opI0 fun _ _ _ _ _ _ _ q=>add_int q
theorem aAb:OpR X (binaryOp .Sub) (rI0 fun i j=> .int (i - j)):=opI0 fun _ _ _ _ _ _ _ q=>sub_int q
theorem aAc:OpR X (binaryOp .Mult) (rI CMul fun i j=> .int (i * j)):=opI fun _ _ _ _ _ _ _ hc q=>mul_int q hc.ok
theorem wN:OpR X (binaryOp .FloorDiv) (rI CDiv fun i j=> .int (i / j)):=opI fun i j _ _ _ _ _ hc q=>by
 have h1:(0:Int)<j:=hc.1
 have h2:j<1073741824:=hc.2
 exact floordiv_int (by omega) (by rw [Int.fdiv_eq_ediv_of_nonneg i (by omega)];exact q) (.inl (PyProof.noPylong_small (by omega)))
theorem aAd:OpR X (binaryOp .Mod) (rI (fun _ j=>0<j) fun i j=> .int (i % j)):=opI fun i j _ _ _ _ _ hc q=>by
 have h1:(0:Int)<j:=hc
 exact mod_int' (by omega) (by rw [Int.fmod_eq_emod_of_nonneg i (by omega)];exact q)
theorem aAe:OpR X (binaryOp .LShift) (rI CPow fun i j=> .int (i * 2 ^ j.toNat)):=opI fun _ _ _ _ _ _ _ hc q=>lshift_int_small hc.1 hc.2.1 hc.2.2 q
theorem aAf:OpR X (binaryOp .RShift) (rI (fun _ j=>0≤j) fun i j=> .int (i / 2 ^ j.toNat)):=opI fun i j _ _ _ _ _ hc q=>
 rshift_int hc (by rw [Int.fdiv_eq_ediv_of_nonneg i (nD _)];exact q)
theorem aAg:OpR X (binaryOp .BitAnd) (rI0 fun i j=> .int (Builtin.bitAnd i j)):=opI0 fun _ _ _ _ _ _ _ q=>and_int q
theorem aC6:OpR X (binaryOp .BitOr) (rI0 fun i j=> .int (Builtin.bitOr i j)):=opI0 fun _ _ _ _ _ _ _ q=>or_int q
theorem aAh:OpR X (binaryOp .BitXor) (rI0 fun i j=> .int (Builtin.bitXor i j)):=opI0 fun _ _ _ _ _ _ _ q=>xor_int q
theorem unI {f:Value→Sem Value} {g:Int→Int}
  (rule: ∀ (i:Int) (t:Tok) (s:Shared) (Q:Value→Shared→Prop) (E:Value→Shared→Prop),Q (.int (g i) s.toks) { s with toks:=s.toks+1 }→wpAny (model X.prog X.w) X.A (f (.int i t)) Q E s):
  UnR X f (rU fun i=> .int (g i)):=by
 intro pins s σ H x v Q I rx h
 obtain⟨i,rfl,q⟩:=h
 obtain⟨t,rfl⟩:=rx
 exact rule i t s _ _ ⟨.int (g i),H,I.tok _,⟨_,rfl⟩,q⟩
theorem aAi:UnR X (unaryOp .USub) (rU fun i=> .int (-i)):=unI fun _ _ _ _ _ q=>neg_int q
end
section
variable {X:Cx} {a b c:Expr} {ta tb tc:TE} {pos:Pos}
theorem vD {pins:List (Addr×Obj)} {σ:St} {H:Hp} {s:Shared} {Q:VK} {k k':Bool} (I:Inv X pins σ H s) (q:Q (.bl k) H) (e:k=k'):EP X pins σ Q (.bool k') s:=by
 subst e
 exact⟨.bl k,H,I,rfl,q⟩
theorem aC7:OpR X (compareOp .Lt) (rI0 fun i j=> .bl (decide (i<j))):=opB0 fun _ _ _ _ _ _ _ q=>lt_int q
theorem aC8:OpR X (compareOp .LtE) (rI0 fun i j=> .bl (decide (i≤j))):=opB0 fun _ _ _ _ _ _ _ q=>le_int q
theorem aC9:OpR X (compareOp .Gt) (rI0 fun i j=> .bl (decide (j<i))):=opB0 fun _ _ _ _ _ _ _ q=>gt_int q
theorem aDa:OpR X (compareOp .GtE) (rI0 fun i j=> .bl (decide (j≤i))):=opB0 fun _ _ _ _ _ _ _ q=>ge_int q
theorem aAj:OpR X (compareOp .Is) (fun x y H Q=>y= .non∧Q (.bl (decide (x= .non))) H):=by
 intro pins s σ H x y v u Q I rx ry h
 obtain⟨rfl,q⟩:=h
 cases ry
 refine is_none_gen (vD I q ?_)
 cases x<;>first
  | (cases rx;rfl)
  | (obtain⟨t,rfl⟩:=rx;rfl)
theorem wO:OpR X (compareOp .IsNot) (fun x y H Q=>y= .non∧Q (.bl (!decide (x= .non))) H):=by
 intro pins s σ H x y v u Q I rx ry h
 obtain⟨rfl,q⟩:=h
 cases ry
 refine isnot_none_gen (vD I q ?_)
 cases x<;>first
  | (cases rx;rfl)
  | (obtain⟨t,rfl⟩:=rx;rfl)
theorem line63:(sizeLine:Nat)<2 ^ 63:=by rw [sizeLine_eq];decide
theorem vals1 {x:V} {us:List Value} (r:Vals [x] us): ∃ u,us=[u]∧RelV x u:=by
 cases r with
 | cons r1 r2=>cases r2;exact⟨_,rfl,r1⟩
theorem vals2 {x y:V} {us:List Value} (r:Vals [x,y] us): ∃ u w',us=[u,w']∧RelV x u∧RelV y w':=by
 cases r with
 | cons r1 r2=>
  cases r2 with
  | cons r3 r4=>cases r4;exact⟨_,_,rfl,r1,r3⟩
theorem sK:CallR X (.builtin "abs") (fun xs H Q=> ∃ i,xs=[.int i]∧Q (.int (if i<0 then -i else i)) H):=by
 intro pins s σ H xs us Q I r h
 obtain⟨i,rfl,q⟩:=h
 obtain⟨u,rfl,t,rfl⟩:=vals1 r
 exact call_abs_int fun u tk=>⟨.int (if i<0 then -i else i),H,I.tok _,⟨_,rfl⟩,q⟩
theorem oD (hc:X.calm=true):CallR X (.builtin "max") (fun xs H Q=> ∃ i j,xs=[.int i, .int j]∧Q (.int (if j > i then j else i)) H):=by
 intro pins s σ H xs us Q I r h
 obtain⟨i,j,rfl,q⟩:=h
 obtain⟨u,w',rfl,⟨t,rfl⟩,⟨t',rfl⟩⟩:=vals2 r
 refine max_two_ints (I.ok.hd hc) fun h' tk k=>⟨_,H,I.kept k, ?_,q⟩
 by_cases hj:j > i
 ·rw [if_pos hj,if_pos hj];exact⟨_,rfl⟩
 ·rw [if_neg hj,if_neg hj];exact⟨_,rfl⟩
theorem oE (hc:X.calm=true):CallR X (.builtin "min") (fun xs H Q=> ∃ i j,xs=[.int i, .int j]∧Q (.int (if j<i then j else i)) H):=by
 intro pins s σ H xs us Q I r h
 obtain⟨i,j,rfl,q⟩:=h
 obtain⟨u,w',rfl,⟨t,rfl⟩,⟨t',rfl⟩⟩:=vals2 r
 refine min_two_ints (I.ok.hd hc) fun h' tk k=>⟨_,H,I.kept k, ?_,q⟩
 by_cases hj:j<i
 ·rw [if_pos hj,if_pos hj];exact⟨_,rfl⟩
 ·rw [if_neg hj,if_neg hj];exact⟨_,rfl⟩
theorem iH:CallR X (.type "int") (fun xs H Q=>(∃ i,xs=[.int i]∧Q (.int i) H)∨ ∃ k,xs=[.bl k]∧Q (.int (if k then 1 else 0)) H):=by
 intro pins s σ H xs us Q I r h
 rcases h with ⟨i,rfl,q⟩ | ⟨k,rfl,q⟩
 ·obtain⟨u,rfl,t,rfl⟩:=vals1 r
  exact call_int_int ⟨.int i,H,I,⟨_,rfl⟩,q⟩
 ·obtain⟨u,rfl,r1⟩:=vals1 r
  cases r1
  exact call_int_bool ⟨.int (if k then 1 else 0),H,I.tok _,⟨_,rfl⟩,q⟩
end
section
variable {prog:Program} {w:World} {A:Around} {E:Value→Shared→Prop} {s:Shared} {K:PySem.W.Frag} {x dx C f:Addr} {mA:Str→Option Value} {name:Str} {v:Value}
end
section
variable {P:Program} {w:World} {H H':Hp} {h h':Heap} {a C dx:Addr} {fs fs':List (Str×V)}
end
section
variable {X:Cx} {pins:List (Addr×Obj)} {σ:St} {H:Hp} {s:Shared} {a C dx:Addr} {fs:List (Str×V)} {f:Str} {v:V} {A:Around} {E:Value→Shared→Prop}
end
section
variable {X:Cx} {o e value:Expr} {f:Str} {pos pos' tpos:Pos} {ta tv:TE}
end
section
variable {X:Cx} {pins:List (Addr×Obj)} {σ:St} {H:Hp} {s:Shared} {A:Around} {E:Value→Shared→Prop} {Q:Value→Shared→Prop} {c:Value} {b:Bool}
end
structure Room (k:Nat) (A:Around):Prop where
 hd:A.handled=none
 dp:A.depth+3 * k+5<recursionLimit
 un:A.units+16 * k+200<cLine
theorem Room.mono {j k:Nat} {A:Around} (r:Room k A) (h:j≤k):Room j A:=⟨r.hd,by have:=r.dp;omega,by have:=r.un;omega⟩
theorem Room.deeper {k:Nat} {A:Around} (r:Room (k+1) A) (env:Env):Room k (A.deeper env):=
 ⟨r.hd,by have:=r.dp;show A.depth+1+3 * k+5<_;omega,by have:=r.un;show A.units+3+16 * k+200<_;omega⟩
theorem Room.depth {k:Nat} {A:Around} (r:Room k A):A.depth<recursionLimit:=by have:=r.dp;omega
theorem Room.units {k:Nat} {A:Around} (r:Room k A):A.units+64<cLine:=by have:=r.un;omega
noncomputable def tNil:TA:=fun _ H Q=>Q [] H
noncomputable def tCons (ta:TE) (tr:TA):TA:=fun σ H Q=>ta σ H fun x H1=>tr σ H1 fun xs H2=>Q (x::xs) H2
section
variable {X:Cx} {e:Expr} {es:List Expr} {te:TE} {t:TA} {pos:Pos}
theorem bN:PA X [] tNil:=fun _ _ _ _ H Q I h=>Calls.spliced_nil ⟨[],H,I, .nil,h⟩
theorem aR (ha:PE X e te) (hr:PA X es t) (hs:starEach (e::es) X.env=(false,eval e X.env)::starEach es X.env:=by rfl):PA X (e::es) (tCons te t):=by
 intro pos pins s σ H Q I h
 rw [hs]
 show wpAny _ _ (spliced ((false,eval e X.env)::backTo pos (starEach es X.env))) _ _ s
 refine Calls.spliced_cons (thn (ha pins s σ H _ I h) fun u s1 hz_=> ?_)
 obtain⟨x,H1,I1,r1,q1⟩:=hz_
 exact thn (hr pos pins s1 σ H1 _ I1 q1) fun us s2 ⟨xs,H2,I2,r2,q2⟩=>⟨x::xs,H2,I2, .cons r1 r2,q2⟩
noncomputable def tTup (t:TA):TE:=fun σ H Q=>t σ H fun xs H1=>xs.length≤sizeLine∧ ∀ p,H1 p=none→Q (.ref p) (upd H1 p (.tup xs))
noncomputable def tLst (t:TA):TE:=fun σ H Q=>t σ H fun xs H1=>xs.length≤sizeLine∧ ∀ p,H1 p=none→Q (.ref p) (upd H1 p (.lst xs))
theorem aAk {x1} (h:PA X es t):PE X (.Tuple es x1 pos) (tTup t):=by
 intro pins s σ H Q I hq
 refine wpAny_Tuple_spliced (thn (h pos pins s σ H _ I hq) fun us s1 ⟨xs,H1,I1,r,z,q⟩=>⟨by rw [←r.length];exact z, ?_⟩)
 have hf:H1 s1.heap.objs.size=none:=I1.hok.fresh (Nat.le_refl _)
 refine⟨.ref s1.heap.objs.size,upd H1 s1.heap.objs.size (.tup xs),I1.laid (t':=s1.toks) (fun b u e=>Heap.get?_push_of_some _ e) (Nat.le_refl _) ?_,rfl,q _ hf⟩
 exact⟨z,us,r,⟨_,Heap.get?_push_size _ rfl,rfl,_,rfl⟩,⟨_,Heap.get?_push_size _ rfl,rfl⟩⟩
theorem aAl (h:PA X es t):PE X (.List es pos) (tLst t):=by
 intro pins s σ H Q I hq
 refine wpAny_List_spliced (thn (h pos pins s σ H _ I hq) fun us s1 ⟨xs,H1,I1,r,z,q⟩=>⟨by rw [←r.length];exact z, ?_⟩)
 have hf:H1 s1.heap.objs.size=none:=I1.hok.fresh (Nat.le_refl _)
 refine⟨.ref s1.heap.objs.size,upd H1 s1.heap.objs.size (.lst xs),I1.laid (t':=s1.toks) (fun b u e=>Heap.get?_push_of_some _ e) (Nat.le_refl _) ?_,rfl,q _ hf⟩
 exact⟨z,us,0,r,Heap.get?_push_size _ rfl⟩
end
abbrev Sp:=List V→Hp→VK→XK→Prop
abbrev CXT:=List Env→Hp→Shared→XK→Value→Shared→Prop
structure Env0 (P:Program) (w:World) (K:PySem.W.Frag) (mg:Str→Option Value) (base:Heap) (A:Around) (outer:List Env) (s:Shared) (H:Hp):Prop where
 frames:A.frames=some outer
 mod:Mod K mg base
 bs: ∀ b o,base.get? b=some o→s.heap.get? b=some o∧H b=none
 bsz:base.objs.size≤s.heap.objs.size
 funs:s.heap.FunFrames base outer
 frf: ∀ b∈frs outer,H b=none
 hok:HOk P w H s.heap
 bare:AllBare s.gens
def CE (outer:List Env) (P:Program) (w:World) (H:Hp) (s:Shared) (Q:VK) (u:Value) (s':Shared):Prop:=
 ∃ v H',s'.os=s.os∧AllBare s'.gens∧Un (frs outer) [] H H' s.heap s'.heap∧HOk P w H' s'.heap∧RelV v u∧Q v H'
def CR (CX:CXT) (outer:List Env) (P:Program) (w:World) (H:Hp) (s:Shared) (Q:VK) (E:XK) (r:Result) (s':Shared):Prop:=
 match r with
 | .ok (.ret u)=>CE outer P w H s Q u s'
 | .ok _=>False
 | .error e=>CX outer H s E e s'
structure FnOk (P:Program) (w:World) (K:PySem.W.Frag) (mg:Str→Option Value) (base:Heap) (CX:CXT) (k:Nat) (f:Addr) (fd:FuncData) (ps:List Str) (sp:Sp):Prop where
 len: ∀ vs H Q E,sp vs H Q E→vs.length=ps.length
 run: ∀ (A:Around) (outer:List Env) (s:Shared) (H:Hp) (args:Args) (us:List Value) (vs:List V) (Q:VK) (E:XK),Room k A→Env0 P w K mg base A outer s H→BindsTo s fd args (ps.zip us)→Vals vs us→sp vs H Q E→
  codeAny (model P w) A (.call (.ref f) args) (CR CX outer P w H s Q E) s
theorem FnOk.imp {P:Program} {w:World} {K:PySem.W.Frag} {mg:Str→Option Value} {base:Heap} {CX:CXT} {k:Nat} {f:Addr} {fd:FuncData} {ps:List Str} {sp sp':Sp} (F:FnOk P w K mg base CX k f fd ps sp)
  (h: ∀ vs H Q E,sp' vs H Q E→sp vs H Q E):FnOk P w K mg base CX k f fd ps sp':=
 ⟨fun vs H Q E q=>F.len vs H Q E (h _ _ _ _ q),fun A outer s H args us vs Q E hr he hb hv hs=>F.run A outer s H args us vs Q E hr he hb hv (h _ _ _ _ hs)⟩
section
variable {X:Cx} {pins:List (Addr×Obj)} {σ:St} {H:Hp} {s s':Shared}
theorem Inv.env0 (I:Inv X pins σ H s):Env0 X.prog X.w X.K X.mg X.base X.A X.stack s H:=
 ⟨I.ok.frames,I.ok.mod,I.bs,Nat.le_trans I.ok.bsz I.sz,I.stack,I.stkFree,I.hok,I.bare⟩
theorem Inv.after {Q:VK} {u:Value} (I:Inv X pins σ H s) (h:CE X.stack X.prog X.w H s Q u s'):EP X pins σ Q u s':=by
 obtain⟨v,H',os,bare,un,hok,r,q⟩:=h
 obtain⟨hh,g,d,t,os'⟩:=s'
 obtain rfl:os'=s.os:=os
 exact⟨v,H',I.call (h':=hh) (g':=g) (d':=d) (t':=t) (ch:=[]) un hok bare (fun b z=>absurd z (by simp)),r,q⟩
end
def Binds (K:PySem.W.Frag) (fd:FuncData) (ps:List Str) (ds:List Value):Prop:=
 ∀ (s:Shared) (us:List Value),K.In s.heap→(us++ds).length=ps.length→BindsTo s fd ⟨us,[]⟩ (ps.zip (us++ds))
theorem Binds.all {K:PySem.W.Frag} {fd:FuncData} {ps:List Str} (h: ∀ us:List Value,us.length=ps.length→bindArgs fd ⟨us,[]⟩=pure (ps.zip us)):Binds K fd ps []:=fun s us _ hl=>by
 rw [List.append_nil] at hl ⊢
 exact .of_eq (h us hl)
section
variable {X:Cx} {CX:CXT} {k:Nat} {f C:Addr} {fd:FuncData} {ps:List Str} {sp:Sp} {dvs:List V} {ds:List Value} {E:XK} {x m:Str} {p pos apos:Pos} {e o:Expr} {es:List Expr} {ta:TE} {t:TA}
end
def PK (X:Cx) (kws:List Keyword) (t:TA):Prop:=
 ∀ (pos:Pos) (pins:List (Addr×Obj)) (s:Shared) (σ:St) (H:Hp) (Q:List V→Hp→Prop),Inv X pins σ H s→t σ H Q→wpAny (model X.prog X.w) X.A (evalAll ((backToKw pos (keywordEach kws X.env)).map (·.2))) (AP X pins σ Q) X.xe s
section
variable {X:Cx} {CX:CXT} {k:Nat} {f C:Addr} {fd:FuncData} {ps ks:List Str} {sp:Sp} {E:XK} {x m:Str} {p pos apos kpos:Pos} {e o:Expr} {es:List Expr} {kws:List Keyword} {te ta:TE} {t tk:TA} {nm:Option Str}
variable {g:List Value→List Value→List Value} {gV:List V→List V→List V}
end
structure FnScope (N P:List Str) (sc:Scope):Prop where
 kind:sc.kind= .function
 co:sc.isCoroutine=false
 gen:sc.isGenerator=false
 nd:N.Nodup
 pre:N.take P.length=P
 par: ∀ x∈P,sc.names.lookup x=some .local∨sc.names.lookup x=some .cell
 nofree: ∀ y∈sc.names,y.2≠ .free
theorem iI {kindOf:Str→Option NameKind} {x:Str}: ∀ {binds:List (Str×Value)} {m:Str→Option Value},(∀ v,(x,v)∉binds)→bindL kindOf binds m x=m x
 | [],_,_=>rfl
 | (n,v)::r,m,h=>by
  unfold bindL
  rw [iI fun w hw=>h w (List.mem_cons_of_mem _ hw)]
  split
  ·have:x≠n:=by rintro rfl;exact h v List.mem_cons_self
   simp [this]
  ·rfl
theorem iJ {kindOf:Str→Option NameKind} {x:Str}: ∀ {binds:List (Str×Value)} {m:Str→Option Value},(∀ v,(x,v)∉binds)→bindC kindOf binds m x=m x
 | [],_,_=>rfl
 | (n,v)::r,m,h=>by
  unfold bindC
  rw [iJ fun w hw=>h w (List.mem_cons_of_mem _ hw)]
  split
  ·rfl
  ·have:x≠n:=by rintro rfl;exact h v List.mem_cons_self
   simp [this]
theorem iK {kindOf:Str→Option NameKind} {x:Str} {v:Value}: ∀ {P:List Str} {vs:List Value} {i:Nat} {m:Str→Option Value},P.Nodup→P[i]? =some x→vs[i]? =some v→kindOf x=some .local→
  bindL kindOf (P.zip vs) m x=some v
 | [],_,_,_,_,h,_,_=>by simp at h
 | _::_,[],_,_,_,_,h,_=>by simp at h
 | p::P,w::vs,0,m,nd,h1,h2,hk=>by
  simp at h1 h2;subst h1;subst h2
  show bindL kindOf ((p,w)::P.zip vs) m p=_
  unfold bindL
  rw [iI fun v hv=>(List.nodup_cons.mp nd).1 (List.of_mem_zip hv).1,if_pos hk]
  simp
 | p::P,w::vs,i+1,m,nd,h1,h2,hk=>by
  show bindL kindOf ((p,w)::P.zip vs) m x=_
  unfold bindL
  exact iK (i:=i) (List.nodup_cons.mp nd).2 (by simpa using h1) (by simpa using h2) hk
theorem iL {kindOf:Str→Option NameKind} {x:Str} {v:Value}: ∀ {P:List Str} {vs:List Value} {i:Nat} {m:Str→Option Value},P.Nodup→P[i]? =some x→vs[i]? =some v→kindOf x≠some .local→
  bindC kindOf (P.zip vs) m x=some v
 | [],_,_,_,_,h,_,_=>by simp at h
 | _::_,[],_,_,_,_,h,_=>by simp at h
 | p::P,w::vs,0,m,nd,h1,h2,hk=>by
  simp at h1 h2;subst h1;subst h2
  show bindC kindOf ((p,w)::P.zip vs) m p=_
  unfold bindC
  rw [iJ fun v hv=>(List.nodup_cons.mp nd).1 (List.of_mem_zip hv).1,if_neg hk]
  simp
 | p::P,w::vs,i+1,m,nd,h1,h2,hk=>by
  show bindC kindOf ((p,w)::P.zip vs) m x=_
  unfold bindC
  exact iL (i:=i) (List.nodup_cons.mp nd).2 (by simpa using h1) (by simpa using h2) hk
noncomputable def start (N:List Str) (vs:List V):St:=vs.map some++List.replicate (N.length - vs.length) none
noncomputable def cxOf (CX:CXT) (P:Program) (w:World) (K:PySem.W.Frag) (mg:Str→Option Value) (base:Heap) (N:List Str) (qual:Str) (scope:Scope) (f:Addr) (cd:Value) (A:Around) (outer:List Env) (s:Shared) (H:Hp) (E:XK):Cx where
 prog:=P
 w:=w
 K:=K
 mg:=mg
 base:=base
 A:=A.deeper (envOfC qual scope s.heap.objs.size f cd)
 N:=N
 s₀:=s
 H₀:=H
 env:=envOfC qual scope s.heap.objs.size f cd
 outer:=outer
 stack:=envOfC qual scope s.heap.objs.size f cd::outer
 ex:=[]
 calm:=true
 fn:=fun _=>true
 pn:=[]
 xe:=fun e s'=>wpAny (model P w) (A.deeper (envOfC qual scope s.heap.objs.size f cd)) (leaving (envOfC qual scope s.heap.objs.size f cd) e) (fun _ s''=>CX outer H s E e s'') (fun e' s''=>CX outer H s E e' s'') s'
theorem lF {sc:Scope} {n:Nat} {x:Str} (h:sc.names.lookup x=some .cell): ∃ c,(cellsFrom n sc.names []).lookup x=some c:=by
 have q:=PySem.W.cellsFrom_some sc.names n [] (.inl h)
 exact Option.isSome_iff_exists.mp q
theorem oF {CX:CXT} {P:Program} {w:World} {K:PySem.W.Frag} {mg:Str→Option Value} {base:Heap} {N ps:List Str} {qual:Str} {scope:Scope} {f:Addr} {cd:Value} {A:Around} {outer:List Env} {s s1:Shared} {H:Hp} {E:XK} {us:List Value} {vs:List V}
  (S:FnScope N ps scope) (hd:A.handled=none) (e0:Env0 P w K mg base A outer s H) (hl:vs.length=ps.length) (r:Vals vs us)
  (x:InCallC s s.heap.objs.size (bindL (envOfC qual scope s.heap.objs.size f cd).kindOf (ps.zip us) fun _=>none) (cellsFrom (s.heap.objs.size+1) scope.names []) (bindC (envOfC qual scope s.heap.objs.size f cd).kindOf (ps.zip us) fun _=>none) s1):
  Inv (cxOf CX P w K mg base N qual scope f cd A outer s H E) [] (start N vs) H s1:=by
 have hpl:ps.length≤N.length:=by have:=congrArg List.length S.pre;rw [List.length_take] at this;omega
 obtain⟨h1,tk,rfl,hk⟩:=x.done
 have noA: ∀ b:Addr,b∉(cxOf CX P w K mg base N qual scope f cd A outer s H E).ex:=fun b z=>absurd (show b∈([]:List Addr) from z) (by simp)
 refine⟨⟨e0.mod,S.kind,rfl,rfl,Nat.le_refl _,fun y z c h1 h2=> ?_,fun y hy=> ?_,fun y c _ h=> ?_,fun _=>hd,Around.frames_deeper e0.frames, .inr ⟨rfl,rfl⟩,fun b z=>absurd z (noA b),e0.bs,e0.bsz,fun b _ _=>noA b,fun b z=>absurd z (noA b),e0.funs,e0.frf⟩,
  rfl,e0.bare,Un.kept hk,⟨_,x.toInCall.ns,fun i y v h1 h2 h3=> ?_⟩,fun y c h=>⟨_,x.cell y c h⟩,e0.hok.fresh (Nat.le_refl _),fun y c h=> ?_,fun p hp=>absurd (show p∈([]:List (Addr×Obj)) from hp) (by simp),e0.hok.kept hk, ?_⟩
 ·exact name_of_addr x.apart (PySem.mem_of_lookup h1) (PySem.mem_of_lookup h2)
 ·have hy:scope.names.lookup y=some .cell∨scope.names.lookup y=some .free:=hy
  rcases hy with hy | hy
  ·exact lF hy
  ·exact absurd rfl (S.nofree _ (PySem.mem_of_lookup hy))
 ·exact Nat.le_of_lt (x.above y c (PySem.mem_of_lookup h))
 ·have hi:i<vs.length:=by
   unfold start at h2
   by_cases hi:i<vs.length
   ·exact hi
   ·rw [List.getElem?_append_right (by simpa using hi)] at h2
    rw [List.getElem?_replicate] at h2
    split at h2<;>cases h2
  have ha:vs[i]? =some v:=by
   unfold start at h2
   rw [List.getElem?_append_left (by simpa using hi),List.getElem?_map] at h2
   cases e:vs[i]? with
   | none=>rw [e] at h2;cases h2
   | some a=>rw [e] at h2;cases h2;rfl
  obtain⟨u,hu,rv⟩:=r.get ha
  have hp:ps[i]? =some y:=by
   rw [←S.pre,List.getElem?_take_of_lt (by omega)];exact h1
  have ndP:ps.Nodup:=by rw [←S.pre];exact S.nd.sublist (List.take_sublist _ _)
  refine⟨u,rv, ?_⟩
  rcases S.par y (List.mem_of_getElem? hp) with k | k
  ·exact .inl ⟨k,iK ndP hp hu k⟩
  ·obtain⟨c,e⟩:=lF (n:=s.heap.objs.size+1) k
   refine .inr ⟨.inl k,c,e, ?_⟩
   have q:=x.cell y c e
   rw [iL ndP hp hu (by show scope.names.lookup y≠_;rw [k];decide)] at q
   exact q
 ·exact e0.hok.fresh (Nat.le_of_lt (x.above y c (PySem.mem_of_lookup h)))
 ·unfold start
  show _=N.length
  rw [List.length_append,List.length_map,List.length_replicate]
  omega
theorem aDb {CX:CXT} {P:Program} {w:World} {K:PySem.W.Frag} {mg:Str→Option Value} {base:Heap} {k:Nat} {f:Addr} {name qual:Str} {params:Arguments} {body:List Stmt} {scope:Scope} {dV kV doc pm cdv ct oc:Value} {an od:Option Addr}
  {osl:Array (Option Value)} {N ps:List Str} {sp:Sp} (lk:K.lookup f=some ⟨oc,od, .func (PySem.W.fnOf name qual params body scope dV kV doc pm an cdv ct),osl⟩) (hcd:PySem.W.codeIn K cdv qual=true) (S:FnScope N ps scope)
  (len: ∀ vs H Q E,sp vs H Q E→vs.length=ps.length)
  (hbody: ∀ (A:Around) (outer:List Env) (s:Shared) (H:Hp) (vs:List V) (Q:VK) (E:XK),Room k (A.deeper (envOfC qual scope s.heap.objs.size f cdv))→sp vs H Q E→
   ∃ t,PSs (cxOf CX P w K mg base N qual scope f cdv A outer s H E) body t∧t { nx:=fun _ H'=>Q .non H',rt:=Q } (start N vs) H):
  FnOk P w K mg base CX (k+1) f (PySem.W.fnOf name qual params body scope dV kV doc pm an cdv ct) ps sp:=by
 refine⟨len,fun A outer s H args us vs Q E hr e0 hb r hsp=> ?_⟩
 have hl:=len _ _ _ _ hsp
 have KX:K.In s.heap:=e0.mod.kin.keeps fun b o e=>(e0.bs b o e).1
 have lim:s.heap.NoLimit:=e0.mod.nolimit.keeps fun b o e=>(e0.bs b o e).1
 have hkind: ∀ y∈ps.zip us,scope.names.lookup y.1=some .local∨(scope.names.lookup y.1=some .cell∧((cellsFrom (s.heap.objs.size+1) scope.names []).lookup y.1).isSome=true):=fun⟨n,v⟩ hy=>by
  rcases S.par n (List.of_mem_zip hy).1 with q | q
  ·exact .inl q
  ·exact .inr ⟨q,PySem.W.cellsFrom_some _ _ _ (.inl q)⟩
 refine codeAny_call_function hr.depth (KX _ _ lk) rfl S.co S.gen rfl (PySem.W.codeRec_of KX hcd) (hb _ _ _ _ ?_)
 refine wpAny_newFunctionEnv_cells S.kind hkind fun env he s1 x=> ?_
 subst he
 refine⟨lim.keeps x.toInCall.keep,codeAny_func ?_⟩
 obtain⟨t,ht,hq⟩:=hbody A outer s H vs Q E (hr.deeper _) hsp
 have I:Inv (cxOf CX P w K mg base N qual scope f cdv A outer s H E) [] (start N vs) H s1:=oF S hr.hd e0 hl r x
 refine wpAny_mono (ht [] s1 (start N vs) H _ I hq) (fun fl s' hs=> ?_) fun e s' hs=>hs
 have fin: ∀ {σ':St} {H':Hp} {v:V} {u:Value},Inv (cxOf CX P w K mg base N qual scope f cdv A outer s H E) [] σ' H' s'→RelV v u→Q v H'→CE outer P w H s Q u s':=
  fun {σ' H' v u} J rv q=>⟨v,H',J.os,J.bare,J.base,J.hok,rv,q⟩
 cases fl with
 | ret u=>
  obtain⟨v,σ',H',J,rv,q⟩:=hs
  exact fin J rv q
 | next=>
  obtain⟨σ',H',J,q⟩:=hs
  exact fin (v:=V.non) (u:=Value.none) J rfl q
 | brk=>
  obtain⟨_,_,_,q⟩:=hs
  exact False.elim q
 | cont=>
  obtain⟨_,_,_,q⟩:=hs
  exact False.elim q
section
variable {X:Cx} {x:Str} {p pos:Pos} {e:Expr} {es:List Expr} {t:TA} {id T:String} {r:List V→Hp→VK→Prop}
noncomputable def tCB (r:List V→Hp→VK→Prop) (t:TA):TE:=fun σ H Q=>t σ H fun vs H1=>r vs H1 Q
theorem sL (hc:CallR X (.builtin id) r) (hg:Gl X x) (hm:X.mg x=none) (hv:bootBuiltins x=some (.builtin id)) (ha:PA X (e::es) t) (hn:x≠"__name__":=by decide) (hdb:(x==("__debug__":Str))=false:=by decide)
  (he:starEach (e::es) X.env=(false,eval e X.env)::starEach es X.env:=by rfl) (hpl:(backTo pos (starEach es X.env)).any (·.1)=false:=by rfl):PE X (.Call (.Name x p) (e::es) [] pos) (tCB r t):=by
 intro pins s σ H Q I h
 refine wpAny_Call_Name_kw (bM I hg hm hv ?_ hn hdb)
 exact PyProof.Rows.callWith_builtin1 (thn (ha pos pins s σ H _ I h) fun us s1 ⟨vs,H1,I1,r1,q1⟩=>hc pins s1 σ H1 vs us Q I1 r1 q1) he hpl
end
end L2
namespace HT
open PySem PyProof.Rows
section
open PySem.SeqAt
open PySem.AutoSeq1 (wpAny_loadPart')
open PySem.MeetsSeq PySem.MeetsSeq2 PySem.MeetsSeq3
end
section
variable {prog:Program} {w:World} {A:Around} {E:Value→Shared→Prop} {s:Shared}
theorem cat_tup {t b:Addr} {vs ws:List Value} {Q:Value→Shared→Prop} (ht:IsTup s.heap t vs.toArray) (hb:IsTup s.heap b ws.toArray) (hv:vs≠[])
  (h1:ws=[]→Q (.ref t) s) (h2:ws≠[]→Q (.ref s.heap.objs.size) { s with heap:=s.heap.push { cls:= .type "tuple",data:= .seq (vs++ws).toArray } })
  (hsz:vs.length+ws.length≤sizeLine):wpAny (model prog w) A (binaryOp .Add (.ref t) (.ref b)) Q E s:=by
 obtain⟨⟨cls,dd,data,sl⟩,ho,hc,n,hd⟩:=id ht
 obtain⟨⟨cls2,dd2,data2,sl2⟩,ho2,hc2,n2,hd2⟩:=id hb
 simp only at hc hd hc2 hd2
 subst hc hd hc2 hd2
 have e:vs.toArray++ws.toArray=(vs++ws).toArray:=by simp
 by_cases hw:ws=[]
 ·exact concat_meets ⟨_,ho,rfl⟩ ⟨_,ho2,rfl⟩ noFill_tuple_add seq_tuple_add PySem.F.slot_tuple_add PySem.F.entry_tuple_add (PySem.F.args_tuple_add_2 _ _)
   (tuple_addW1 t b vs.toArray ws.toArray n n2 dd dd2 sl sl2 (by simpa using hv) (by simp [hw])) ⟨ho,ho2,h1 hw⟩
 ·refine concat_meets ⟨_,ho,rfl⟩ ⟨_,ho2,rfl⟩ noFill_tuple_add seq_tuple_add PySem.F.slot_tuple_add PySem.F.entry_tuple_add (PySem.F.args_tuple_add_2 _ _)
   (tuple_addW2 t b vs.toArray ws.toArray n n2 dd dd2 sl sl2 (by simpa using hv) (by simpa using hw) (by rw [List.size_toArray,List.size_toArray];exact hsz)) ⟨ho,ho2, ?_⟩
  rw [e]
  exact h2 hw
noncomputable def sIx (n d:Nat):Option Int→Nat
 | none=>d
 | some v=>if v<0 then(v+(n:Int)).toNat else min v.toNat n
theorem aAm (n d:Nat) (hd:d≤n) (o:Option Int):sIx n d o≤n:=by
 cases o with
 | none=>exact hd
 | some v=>
  show(if v<0 then(v+(n:Int)).toNat else min v.toNat n)≤n
  by_cases hv:v<0
  ·rw [if_pos hv];omega
  ·rw [if_neg hv];exact Nat.min_le_right _ _
theorem oG (v:Int) (n d:Nat):(if v<0 then max (v+(n:Int)) 0 else min v (n:Int))=((sIx n d (some v):Nat):Int):=by
 show(if v<0 then max (v+(n:Int)) 0 else min v (n:Int))=(((if v<0 then(v+(n:Int)).toNat else min v.toNat n):Nat):Int)
 by_cases hv:v<0
 ·simp only [if_pos hv];omega
 ·simp only [if_neg hv];omega
theorem nE (lo hi:Option Int) (n:Nat):Builtin.Slice.sliceAdjust lo hi 1 (n:Int)=(((sIx n 0 lo:Nat):Int),((sIx n n hi:Nat):Int)):=by
 have h1: ¬ ((1:Int)<0):=by omega
 unfold Builtin.Slice.sliceAdjust
 simp only [h1,if_false]
 refine Prod.ext ?_ ?_
 ·cases lo with
  | none=>rfl
  | some v=>exact oG v n 0
 ·cases hi with
  | none=>rfl
  | some v=>exact oG v n n
theorem nF (i j:Nat):Builtin.Slice.slicePlaces (i:Int) (j:Int) 1=j - i:=by
 unfold Builtin.Slice.slicePlaces
 have h1:(1:Int) > 0:=by omega
 simp only [h1,if_true,Int.ediv_one]
 split<;>omega
theorem fI {v:Value} {o:Option Int} {Q:Option Int→Shared→Prop} (p:IsPart v o) (h:Q o s):wpAny (model prog w) A (Builtin.Slice.slicePartIndex v) Q E s:=by
 cases p with
 | none=>exact slicePart_none h
 | int i t=>exact slicePart_int h
theorem sliceApplied_gen {sl:Addr} {vl vu:Value} {lo hi:Option Int} {n:Nat} {Q:Int×Int×Nat→Shared→Prop} (hs:s.heap.IsSliceOf sl vl vu .none) (pl:IsPart vl lo) (pu:IsPart vu hi)
  (h:Q (((sIx n 0 lo:Nat):Int),1,sIx n n hi - sIx n 0 lo) s):wpAny (model prog w) A (Builtin.Slice.sliceApplied (.ref sl) (pure (n:Int))) Q E s:=by
 obtain⟨os,hos,hcs,hds⟩:=id hs
 unfold Builtin.Slice.sliceApplied Builtin.Slice.sliceFields
 refine wpAny_bind (wpAny_bind (wpAny_field hos hds (x:=vl) rfl (wpAny_bind (wpAny_field hos hds (x:=vu) rfl (wpAny_bind (wpAny_field hos hds (x:= .none) rfl (wpAny_pure ?_)))))))
 refine wpAny_bind (slicePart_none ?_)
 show wpAny _ _ (if((1:Int)==0)=true then _ else _) _ _ s
 rw [if_neg (by decide)]
 refine wpAny_bind (fI pl (wpAny_bind (fI pu (wpAny_bind (wpAny_pure ?_)))))
 show wpAny _ _ (match Builtin.Slice.sliceAdjust lo hi 1 (n:Int) with | (lo,hi)=>pure (lo,(1:Int),Builtin.Slice.slicePlaces lo hi 1)) _ _ s
 rw [nE lo hi n]
 show wpAny _ _ (pure (((sIx n 0 lo:Nat):Int),(1:Int),Builtin.Slice.slicePlaces ((sIx n 0 lo:Nat):Int) ((sIx n n hi:Nat):Int) 1)) _ _ s
 rw [nF]
 exact wpAny_pure h
theorem sM (xs:Array Value) (i k:Nat):((List.range k).filterMap fun(m:Nat)=>xs[((i:Int)+(m:Int) * 1).toNat]?).toArray=((xs.toList.drop i).take k).toArray:=by
 have e:(fun(m:Nat)=>xs[((i:Int)+(m:Int) * 1).toNat]?)=fun m=>xs[i+m]? :=by
  funext m
  have:((i:Int)+(m:Int) * 1).toNat=i+m:=by omega
  rw [this]
 rw [e]
 have:=pick_run xs i k
 rw [List.filterMap_map] at this
 have e2:((fun x=>xs[x]?) ∘ fun x=>i+x)=fun m=>xs[i+m]? :=rfl
 rw [e2] at this
 rw [this]
theorem getItem_tuple_cut {t sl:Addr} {items:Array Value} {vl vu:Value} {lo hi:Option Int} {Q:Value→Shared→Prop} (ht:IsTup s.heap t items) (hs:s.heap.IsSliceOf sl vl vu .none) (pl:IsPart vl lo) (pu:IsPart vu hi)
  (hw: ¬ (sIx items.size 0 lo=0∧sIx items.size items.size hi=items.size))
  (h:Q (.ref s.heap.objs.size) { s with heap:=s.heap.push { cls:= .type "tuple",data:= .seq ((items.toList.drop (sIx items.size 0 lo)).take (sIx items.size items.size hi - sIx items.size 0 lo)).toArray } })
  (hsz:items.size≤sizeLine):wpAny (model prog w) A (getItem (.ref t) (.ref sl)) Q E s:=by
 have htake:sizeOk (.seq ((items.toList.drop (sIx items.size 0 lo)).take (sIx items.size items.size hi - sIx items.size 0 lo)).toArray):=by
  show((items.toList.drop (sIx items.size 0 lo)).take (sIx items.size items.size hi - sIx items.size 0 lo)).toArray.size≤sizeLine
  rw [List.size_toArray,List.length_take,List.length_drop,Array.length_toList]
  omega
 have hj:sIx items.size items.size hi≤items.size:=aAm _ _ (Nat.le_refl _) hi
 obtain⟨os,hos,hcs,hds⟩:=id hs
 have hTs:s.TypeIs (.ref sl) "slice":=⟨os,hos,hcs⟩
 unfold getItem
 try with_reducible refine wpAny_holding ?_
 first | refine wpAny_bind (wpAny_pure ?_) | skip
 refine wpAny_bind (wpAny_sequenceKey ht.typeIs (by decide) ?_)
 refine wpAny_bind (wpAny_callSpecial?_slot (name:=Str.ofString "__getitem__") ht.typeIs PyProof.Rows.slot_tuple_getitem
  (wpAny_call_entry PyProof.Rows.slot_tuple_getitem ht.typeIs entry_tuple_getitem ?_ (args_tuple_getitem _ _)))
 show wpAny _ _ (Builtin.Tuple.tupleItemsOf (.ref t) >>= _) _ _ s
 refine wpAny_bind (tupleItemsOf_ ht ?_)
 refine wpAny_bind (wpAny_typeOf hTs ?_)
 rw [if_pos (by decide)]
 refine wpAny_bind (sliceApplied_gen hs pl pu ?_)
 have hno: ¬ ((((sIx items.size 0 lo:Nat):Int)==0&&(1:Int)==1&&(sIx items.size items.size hi - sIx items.size 0 lo)==items.size)=true):=by
  intro q
  rw [Bool.and_eq_true,Bool.and_eq_true] at q
  have q1:((sIx items.size 0 lo:Nat):Int)=0:=eq_of_beq q.1.1
  have q2:sIx items.size items.size hi - sIx items.size 0 lo=items.size:=eq_of_beq q.2
  exact hw ⟨by omega,by omega⟩
 show wpAny _ _ (if(((sIx items.size 0 lo:Nat):Int)==0&&(1:Int)==1&&(sIx items.size items.size hi - sIx items.size 0 lo)==items.size)=true then _ else _) _ _ s
 rw [if_neg hno,sM]
 first
  | exact wpAny_bind (m:=Builtin.Tuple.tupleExact _) (wpAny_newObj_type (wpAny_pure ⟨_,rfl,wpAny_pure h⟩) htake)
  | exact wpAny_bind (m:=Builtin.Tuple.tupleExact _) (wpAny_newObj_type (wpAny_bind (wpAny_pure (wpAny_pure ⟨_,rfl,wpAny_pure h⟩))) htake)
  | exact wpAny_bind (wpAny_bind (m:=Builtin.Tuple.tupleExact _) (wpAny_newObj_type (wpAny_pure (wpAny_pure ⟨_,rfl,wpAny_pure h⟩)) htake))
  | exact wpAny_bind (wpAny_bind (m:=Builtin.Tuple.tupleExact _) (wpAny_newObj_type (wpAny_pure ⟨_,rfl,wpAny_pure h⟩) htake))
end
end HT
namespace L2
open PySem PySem.Spec PyProof.Rows
abbrev TO:=St→Hp→(Option Int→Hp→Prop)→Prop
theorem nG {ns:List Int}: ∀ {us:List Value},Vals (ns.map V.int) us→IntsAre us ns:=by
 induction ns with
 | nil=>intro us r;rw [List.map_nil] at r;cases r;exact .nil
 | cons n ns ih=>
  intro us r
  rw [List.map_cons] at r
  cases r with
  | cons r1 r2=>
   obtain⟨t,e⟩:=r1
   subst e
   exact .cons n t (ih r2)
section
variable {X:Cx} {e:Expr} {te:TE} {lo hi:Option Expr} {tl th:TO} {pos p2:Pos}
def SlR (X:Cx) (r:V→Option Int→Option Int→Hp→VK→Prop):Prop:=
 ∀ (pins:List (Addr×Obj)) (s:Shared) (σ:St) (H:Hp) (x:V) (v vl vu:Value) (lo hi:Option Int) (sl:Addr) (Q:VK),Inv X pins σ H s→RelV x v→s.heap.IsSliceOf sl vl vu .none→IsPart vl lo→IsPart vu hi→r x lo hi H Q→
  ∃ T id,typeLookup (.type T) "__getitem__"=pure (some (.builtin id))∧s.TypeIs v T∧wpAny (model X.prog X.w) X.A (getItem v (.ref sl)) (EP X pins σ Q) X.xe s
noncomputable def cutV (xs:List V) (lo hi:Option Int):List V:=(xs.drop (HT.sIx xs.length 0 lo)).take (HT.sIx xs.length xs.length hi - HT.sIx xs.length 0 lo)
theorem eJ (xs:List V) (lo hi:Option Int):(cutV xs lo hi).length≤xs.length:=by
 unfold cutV
 rw [List.length_take,List.length_drop]
 omega
noncomputable def rSlT (K:PySem.W.Frag):V→Option Int→Option Int→Hp→VK→Prop:=fun x lo hi H Q=> ∃ a xs,x= .ref a∧SqT K H a xs∧
 ¬ (HT.sIx xs.length 0 lo=0∧HT.sIx xs.length xs.length hi=xs.length)∧ ∀ p,H p=none→Q (.ref p) (upd H p (.tup (cutV xs lo hi)))
theorem aAn:SlR X (rSlT X.K):=by
 intro pins s σ H x v vl vu lo hi sl Q I rx hs pl pu h
 obtain⟨a,xs,rfl,hx,hw,q⟩:=h
 cases rx
 obtain⟨its,r,ht,hz⟩:=I.tuple hx
 have hlen:its.toArray.size=xs.length:=by rw [List.size_toArray];exact r.length.symm
 refine⟨"tuple",_,PyProof.Rows.slot_tuple_getitem.lookup,ht.typeIs, ?_⟩
 refine HT.getItem_tuple_cut ht hs pl pu (by rw [hlen];exact hw) ?_ (by rw [hlen];exact hz)
 rw [hlen]
 refine⟨.ref s.heap.objs.size,_,I.laid (t':=s.toks) (o:= .tup (cutV xs lo hi)) (fun b ob q=>Heap.get?_push_of_some _ q) (Nat.le_refl _) ?_,rfl,q _ (I.hok.fresh (Nat.le_refl _))⟩
 exact⟨Nat.le_trans (eJ xs lo hi) hz,_,(r.drop (HT.sIx xs.length 0 lo)).take (HT.sIx xs.length xs.length hi - HT.sIx xs.length 0 lo),IsTup.new _ _,⟨_,Heap.get?_push_size _ rfl,rfl⟩⟩
noncomputable def rCatT (K:PySem.W.Frag):R2:=fun x y H Q=> ∃ a b xs ys,x= .ref a∧y= .ref b∧SqT K H a xs∧SqT K H b ys∧xs≠[]∧xs.length+ys.length≤sizeLine∧
 (ys=[]→Q (.ref a) H)∧(ys≠[]→ ∀ p,H p=none→Q (.ref p) (upd H p (.tup (xs++ys))))
theorem Vals.nil_iff {xs:List V} {us:List Value} (r:Vals xs us):us=[]↔xs=[]:=by
 cases r with
 | nil=>simp
 | cons _ _=>simp
theorem wP:OpR X (binaryOp .Add) (rCatT X.K):=by
 intro pins s σ H x y v u Q I rx ry h
 obtain⟨a,b,xs,ys,rfl,rfl,ha,hb,hx,hz,q1,q2⟩:=h
 cases rx
 cases ry
 obtain⟨its,r1,p1,_⟩:=I.tuple ha
 obtain⟨its2,r2,p2,_⟩:=I.tuple hb
 refine HT.cat_tup p1 p2 (fun z=>hx (r1.nil_iff.mp z)) (fun z=>⟨.ref a,H,I,rfl,q1 (r2.nil_iff.mp z)⟩) (fun z=> ?_) (by rw [←r1.length, ←r2.length];exact hz)
 refine⟨.ref s.heap.objs.size,_,I.laid (t':=s.toks) (o:= .tup (xs++ys)) (fun b ob q=>Heap.get?_push_of_some _ q) (Nat.le_refl _) ?_,rfl,q2 (fun w=>z (r2.nil_iff.mpr w)) _ (I.hok.fresh (Nat.le_refl _))⟩
 exact⟨by rw [List.length_append];exact hz,_,r1.append r2,IsTup.new _ _,⟨_,Heap.get?_push_size _ rfl,rfl⟩⟩
end
noncomputable def ixN (n:Nat) (i:Int):Option Nat:=if 0≤i then(if i<n then some i.toNat else none) else if -(n:Int)≤i then some (i+n).toNat else none
noncomputable def atI {α:Type} (xs:List α) (i:Int):Option α:=(ixN xs.length i).bind fun j=>xs[j]?
theorem oH {n:Nat} {i:Int} {j:Nat} (h:ixN n i=some j):seqIndex? i n=some j∧j<n∧ -(n:Int)≤i∧i<n:=by
 unfold ixN at h
 by_cases h0:0≤i
 ·rw [if_pos h0] at h
  by_cases h1:i<n
  ·rw [if_pos h1] at h
   have e:i.toNat=j:=Option.some.inj h
   exact⟨by rw [seqIndex_of h0 h1,e],by omega,by omega,h1⟩
  ·rw [if_neg h1] at h;cases h
 ·rw [if_neg h0] at h
  by_cases h1: -(n:Int)≤i
  ·rw [if_pos h1] at h
   have e:(i+n).toNat=j:=Option.some.inj h
   exact⟨by rw [seqIndex_neg (by omega) h1,e],by omega,h1,by omega⟩
  ·rw [if_neg h1] at h;cases h
theorem jZ {α:Type} {xs:List α} {i:Int} {v:α} (h:atI xs i=some v): ∃ j,seqIndex? i xs.length=some j∧xs[j]? =some v∧j<xs.length∧ -(xs.length:Int)≤i∧i<xs.length:=by
 unfold atI at h
 cases e:ixN xs.length i with
 | none=>rw [e] at h;cases h
 | some j=>
  rw [e] at h
  obtain⟨h1,h2,h3,h4⟩:=oH e
  exact⟨j,h1,h,h2,h3,h4⟩
def PlainIx (b:Expr):Prop:= ∀ o i,subscripted b false o i=operate [o,i] (getItem o i)
def IxR (X:Cx) (r:R2):Prop:=
 ∀ (value slice:Expr) (pins:List (Addr×Obj)) (s:Shared) (σ:St) (H:Hp) (x y:V) (v u:Value) (Q:VK),Inv X pins σ H s→RelV x v→RelV y u→r x y H Q→
  subscripted slice false v u=operate [v,u] (getItem v u)→wpAny (model X.prog X.w) X.A (subscriptTail value slice v u) (EP X pins σ Q) X.xe s
def MtR (X:Cx) (id:String) (r:V→List V→Hp→VK→Prop):Prop:=
 ∀ (pins:List (Addr×Obj)) (s:Shared) (σ:St) (H:Hp) (x:V) (xs:List V) (v:Value) (us:List Value) (Q:VK),Inv X pins σ H s→RelV x v→Vals xs us→r x xs H Q→
  wpAny (model X.prog X.w) X.A (call (.builtin id) (v::us)) (EP X pins σ Q) X.xe s
section
variable {X:Cx} {a b:Expr} {ta tb:TE} {pos:Pos}
noncomputable def rIxL (K:PySem.W.Frag):R2:=fun x y H Q=> ∃ p xs i v,x= .ref p∧y= .int i∧SqL K H p xs∧atI xs i=some v∧Q v H
noncomputable def rIxT (K:PySem.W.Frag):R2:=fun x y H Q=> ∃ p xs i v,x= .ref p∧y= .int i∧SqT K H p xs∧atI xs i=some v∧Q v H
noncomputable def rIxS:R2:=fun x y H Q=> ∃ z i c,x= .str z∧y= .int i∧z.length≤sizeLine∧atI z.cps.toList i=some c∧Q (.str ⟨#[c]⟩) H
theorem wQ:IxR X (rIxL X.K):=by
 intro value slice pins s σ H x y v u Q I rx ry h hs
 obtain⟨p,xs,i,z,rfl,rfl,hq,he,q⟩:=h
 cases rx
 obtain⟨t,rfl⟩:=ry
 obtain⟨its,r,pl,hz⟩:=I.list hq
 obtain⟨j,h1,h2,h3,h4,h5⟩:=jZ he
 obtain⟨w,ew,rw'⟩:=r.get h2
 have hl:=r.length
 have hn:=line63
 have fin:EP X pins σ Q w s:=⟨z,H,I,rw',q⟩
 by_cases h0:0≤i
 ·have hj:i.toNat=j:=by
   rw [seqIndex_of h0 h5] at h1
   exact Option.some.inj h1
  exact item_listR pl.isList h0 (by omega) (by rw [hj];simpa using ew) fin hs
 ·have hj:(i+(its.toArray.size:Int)).toNat=j:=by
   rw [seqIndex_neg (by omega) h4] at h1
   rw [List.size_toArray, ←hl]
   exact Option.some.inj h1
  exact subscriptTail_builtinR (x:=w) pl.isList.typeIs slot_list_getitem.lookup
   (wpAny_getItem_list_neg (Q:=fun r s'=>r=w∧EP X pins σ Q r s') pl.isList (by omega) (by rw [List.size_toArray]<;>omega) (by omega) (by rw [hj];simpa using ew) ⟨rfl,fin⟩) hs
theorem aAo:IxR X (rIxT X.K):=by
 intro value slice pins s σ H x y v u Q I rx ry h hs
 obtain⟨p,xs,i,z,rfl,rfl,hq,he,q⟩:=h
 cases rx
 obtain⟨t,rfl⟩:=ry
 obtain⟨its,r,pl,hz⟩:=I.tuple hq
 obtain⟨j,h1,h2,h3,h4,h5⟩:=jZ he
 obtain⟨w,ew,rw'⟩:=r.get h2
 have hl:=r.length
 have hn:=line63
 have fin:EP X pins σ Q w s:=⟨z,H,I,rw',q⟩
 exact subscriptTail_builtinR (x:=w) pl.typeIs slot_tuple_getitem.lookup
  (getItem_tuple (j:=j) (Q:=fun r s'=>r=w∧EP X pins σ Q r s') pl (by omega) (by omega) (by rw [List.size_toArray, ←hl];exact h1) (by simpa using ew) ⟨rfl,fin⟩) hs
noncomputable def rIx (K:PySem.W.Frag):R2:=fun x y H Q=>rIxL K x y H Q∨rIxT K x y H Q∨rIxS x y H Q
theorem nH (its:List Value) (n j:Nat) (u:Value):Obj.mapSeq (·.setIfInBounds j u) { cls:= .type "list",data:= .seq its.toArray n }={ cls:= .type "list",data:= .seq (its.set j u).toArray n }:=by
 simp [Obj.mapSeq]
theorem Inv.lst {pins:List (Addr×Obj)} {σ:St} {H:Hp} {s:Shared} {p:Addr} {xs:List V} (I:Inv X pins σ H s) (h:H p=some (.lst xs)):
  ∃ (its:List Value) (n:Nat),Vals xs its∧s.heap.get? p=some { cls:= .type "list",data:= .seq its.toArray n }∧xs.length≤sizeLine:=by
 obtain⟨z,its,n,r,e⟩:=I.hok p _ h
 exact⟨its,n,r,e,z⟩
theorem Inv.lstUpd {pins:List (Addr×Obj)} {σ:St} {H:Hp} {s:Shared} {p:Addr} {xs ys:List V} {its its':List Value} {n n':Nat} {f:Obj→Obj} (I:Inv X pins σ H s) (h:H p=some (.lst xs))
  (ho:s.heap.get? p=some { cls:= .type "list",data:= .seq its.toArray n }) (hf:f { cls:= .type "list",data:= .seq its.toArray n }={ cls:= .type "list",data:= .seq its'.toArray n' }) (r:Vals ys its') (hz:ys.length≤sizeLine) (t:Nat):
  Inv X pins σ (upd H p (.lst ys)) { s with heap:=s.heap.update p f,toks:=t }:=by
 have e:(s.heap.update p f).get? p=some { cls:= .type "list",data:= .seq its'.toArray n' }:=by
  rw [Heap.get?_update_self f ho (by rw [hf]<;>rfl),hf]
 refine I.write (x:=p) (e:=p) (by rw [h];trivial) (.inl rfl) (fun b u hb q=>(Heap.get?_update_other _ _ (Ne.symm hb)).trans q) ⟨_,e⟩ ?_
 exact⟨hz,its',n',r,e⟩
noncomputable def rSetL:V→V→V→Hp→(Hp→Prop)→Prop:=fun o i v H Q=> ∃ p xs k j,o= .ref p∧i= .int k∧H p=some (.lst xs)∧ixN xs.length k=some j∧Q (upd H p (.lst (xs.set j v)))
theorem lG:PSet X rSetL:=by
 intro pins s σ H o i v ov iv u Q I ro ri rv h
 obtain⟨p,xs,k,j,rfl,rfl,hp,hj,q⟩:=h
 cases ro
 obtain⟨t,rfl⟩:=ri
 obtain⟨its,n,r,ho,hz⟩:=I.lst hp
 obtain⟨h1,h2,h3,h4⟩:=oH hj
 have hl:=r.length
 have hn:=line63
 have I':Inv X pins σ (upd H p (.lst (xs.set j v))) { s with heap:=s.heap.update p (Obj.mapSeq (·.setIfInBounds j u)) }:=
  I.lstUpd hp ho (nH its n j u) (r.set rv j) (by rw [List.length_set];exact hz) s.toks
 by_cases h0:0≤k
 ·have hk:k.toNat=j:=by
   rw [seqIndex_of h0 h4] at h1
   exact Option.some.inj h1
  exact PySem.W.ki_setAt ho h0 (by omega) (by rw [List.size_toArray, ←hl];exact h4) (by rw [hk];exact⟨_,I',q⟩)
 ·have hk:(k+(its.toArray.size:Int)).toNat=j:=by
   rw [seqIndex_neg (by omega) h3] at h1
   rw [List.size_toArray, ←hl]
   exact Option.some.inj h1
  exact PySem.W.ki_setBack ho (by omega) (by rw [List.size_toArray, ←hl];exact h3) (by omega) (by rw [hk];exact⟨_,I',q⟩)
theorem iM (lo hi:Option Int) (n:Nat):(sliceBounds lo hi none n).1=((HT.sIx n 0 lo:Nat):Int)∧(sliceBounds lo hi none n).2.1=((HT.sIx n n hi:Nat):Int)∧(sliceBounds lo hi none n).2.2=1:=by
 refine⟨?_, ?_,rfl⟩
 ·cases lo with
  | none=>simp [sliceBounds,HT.sIx]
  | some i=>
   simp only [sliceBounds,HT.sIx,Option.getD_none,show(1:Int) > 0 by decide,if_true]
   by_cases h:i<0
   ·simp only [h,if_true]<;>omega
   ·simp only [h,if_false]<;>omega
 ·cases hi with
  | none=>simp [sliceBounds,HT.sIx]
  | some i=>
   simp only [sliceBounds,HT.sIx,Option.getD_none,show(1:Int) > 0 by decide,if_true]
   by_cases h:i<0
   ·simp only [h,if_true]<;>omega
   ·simp only [h,if_false]<;>omega
theorem gE (its:List Value) (lo hi:Option Int):slicePick its.toArray lo hi none=((its.drop (HT.sIx its.length 0 lo)).take (HT.sIx its.length its.length hi - HT.sIx its.length 0 lo)).toArray:=by
 obtain⟨h1,h2,h3⟩:=iM lo hi its.toArray.size
 unfold slicePick
 rw [h1,h2,h3]
 simp only [sliceRange_one,pick_run,List.size_toArray]<;>rfl
noncomputable def rSlL (K:PySem.W.Frag):V→Option Int→Option Int→Hp→VK→Prop:=fun x lo hi H Q=> ∃ a xs,x= .ref a∧SqL K H a xs∧ ∀ p,H p=none→Q (.ref p) (upd H p (.lst (cutV xs lo hi)))
theorem wR:SlR X (rSlL X.K):=by
 intro pins s σ H x v vl vu lo hi sl Q I rx hs pl pu h
 obtain⟨a,xs,rfl,hx,q⟩:=h
 cases rx
 obtain⟨its,r,ht,hz⟩:=I.list hx
 have hlen:=r.length
 refine⟨"list",_,slot_list_getitem.lookup,ht.isList.typeIs, ?_⟩
 refine wpAny_getItem_list_slice ht.isList hs pl pu .none (by simp) ?_ (by rw [List.size_toArray]<;>omega)
 rw [gE, ←hlen]
 refine⟨.ref s.heap.objs.size,_,I.laid (t':=s.toks) (o:= .lst (cutV xs lo hi)) (fun b ob q=>Heap.get?_push_of_some _ q) (Nat.le_refl _) ?_,rfl,q _ (I.hok.fresh (Nat.le_refl _))⟩
 exact⟨Nat.le_trans (eJ xs lo hi) hz,_,0,(r.drop (HT.sIx xs.length 0 lo)).take (HT.sIx xs.length xs.length hi - HT.sIx xs.length 0 lo),Heap.get?_push_size _ rfl⟩
theorem iN:CallR X (.builtin "len") (fun xs H Q=> ∃ p ys,xs=[.ref p]∧(SqL X.K H p ys∨SqT X.K H p ys)∧Q (.int ys.length) H):=by
 intro pins s σ H xs us Q I r h
 obtain⟨p,ys,rfl,hq,q⟩:=h
 obtain⟨u,rfl,rx⟩:=vals1 r
 cases rx
 have hn:=line63
 rcases hq with hq | hq
 ·obtain⟨its,r',pl,hz⟩:=I.list hq
  have hlen:=r'.length
  exact Calls.call_len_list pl.isList (by simp only [List.size_toArray]<;>omega) ⟨.int ys.length,H,I.tok _,⟨s.toks+1,by rw [List.size_toArray,hlen]⟩,q⟩
 ·obtain⟨its,r',pl,hz⟩:=I.tuple hq
  have hlen:=r'.length
  exact len_tuple pl (by simp only [List.size_toArray]<;>omega) ⟨.int ys.length,H,I.tok _,⟨s.toks+1,by rw [List.size_toArray,hlen]⟩,q⟩
theorem iO:CallR X (.type "list") (fun xs H Q=> ∃ p ys,xs=[.ref p]∧(SqL X.K H p ys∨SqT X.K H p ys)∧ ∀ l,H l=none→Q (.ref l) (upd H l (.lst ys))):=by
 intro pins s σ H xs us Q I r h
 obtain⟨p,ys,rfl,hq,q⟩:=h
 obtain⟨u,rfl,rx⟩:=vals1 r
 cases rx
 have fin: ∀ (its:List Value),Vals ys its→ys.length≤sizeLine→ ∀ (h':Heap) (c':Nat),(∀ b o',s.heap.get? b=some o'→h'.get? b=some o')→
   h'.get? s.heap.objs.size=some { cls:= .type "list",dict:=none,data:= .seq its.toArray c',slots:= #[] }→EP X pins σ Q (.ref s.heap.objs.size) { s with heap:=h' }:=fun its r' hz h' c' kp e=>
  ⟨.ref s.heap.objs.size,_,I.laid (t':=s.toks) kp (Nat.le_refl _) (show ObjOk X.prog X.w _ h' _ (.lst ys) from⟨hz,its,c',r',e⟩),rfl,q _ (I.hok.fresh (Nat.le_refl _))⟩
 rcases hq with hq | hq
 ·obtain⟨its,r',pl,hz⟩:=I.list hq
  have hlen:=r'.length
  obtain⟨o,ho,hc,n,hd⟩:=pl.isList
  exact call_list_seq p (.inl rfl) ho hc hd (fun h' c' kp e=>fin its r' hz h' c' kp e) (by simp only [List.size_toArray]<;>omega)
 ·obtain⟨its,r',pl,hz⟩:=I.tuple hq
  have hlen:=r'.length
  obtain⟨o,ho,hc,n,hd⟩:=pl
  exact call_list_seq p (.inr rfl) ho hc hd (fun h' c' kp e=>fin its r' hz h' c' kp e) (by simp only [List.size_toArray]<;>omega)
theorem cZ:CallR X (.type "tuple") (fun xs H Q=> ∃ p ys,xs=[.ref p]∧((SqL X.K H p ys∧ ∀ l,H l=none→Q (.ref l) (upd H l (.tup ys)))∨(SqT X.K H p ys∧Q (.ref p) H))):=by
 intro pins s σ H xs us Q I r h
 obtain⟨p,ys,rfl,h⟩:=h
 obtain⟨u,rfl,rx⟩:=vals1 r
 cases rx
 rcases h with ⟨hq,q⟩ | ⟨hq,q⟩
 ·obtain⟨its,r',pl,hz⟩:=I.list hq
  have hlen:=r'.length
  refine call_tuple_list pl.isList (fun h' kp=> ?_) (by simp only [List.size_toArray]<;>omega)
  have I1:Inv X pins σ H { s with heap:=h' }:=I.kept (t':=s.toks) kp
  have I2:Inv X pins σ (upd H h'.objs.size (.tup ys)) { s with heap:=h'.push { cls:= .type "tuple",data:= .seq its.toArray } }:=
   I1.laid (t':=s.toks) (fun b o e=>Heap.get?_push_of_some _ e) (Nat.le_refl _) (show ObjOk X.prog X.w _ _ _ (.tup ys) from⟨hz,its,r',IsTup.new _ _,⟨_,Heap.get?_push_size _ rfl,rfl⟩⟩)
  exact⟨.ref h'.objs.size,_,I2,rfl,q _ (I1.hok.fresh (Nat.le_refl _))⟩
 ·obtain⟨its,r',pl,hz⟩:=I.tuple hq
  exact call_tuple_same pl ⟨.ref p,H,I,rfl,q⟩
def tyV (K:PySem.W.Frag) (T:String) (x:V) (H:Hp):Prop:=match x with
 | .str _=>T="str"
 | .int _=>T="int"
 | .ref p=>(T="list"∧ ∃ xs,SqL K H p xs)∨(T="tuple"∧ ∃ o,K.lookup p=some o∧o.cls= .type "tuple"∧o.dict=none)∨
   (T="dict"∧((∃ kvs,H p=some (.dK kvs))∨ ∃ kvs,H p=some (.dT kvs)))∨(T="set"∧ ∃ S n,H p=some (.set S n))
 | _=>False
theorem aAp {pins:List (Addr×Obj)} {σ:St} {H:Hp} {s:Shared} {T:String} {x:V} {v:Value} (I:Inv X pins σ H s) (r:RelV x v) (ty:tyV X.K T x H):
  s.TypeIs v T∧ ∀ a,v= .ref a→ ∃ ob,s.heap.get? a=some ob∧ob.dict=none:=by
 cases x with
 | str z=>
  obtain⟨t,rfl⟩:=r
  cases (show T="str" from ty)
  exact⟨typeIs_str s z t,fun _ e=>nomatch e⟩
 | int i=>
  obtain⟨t,rfl⟩:=r
  cases (show T="int" from ty)
  exact⟨typeIs_int s i t,fun _ e=>nomatch e⟩
 | ref p=>
  cases r
  rcases ty with ⟨rfl,xs,hq⟩ | ⟨rfl,o,hk,hc,hd⟩ | ⟨rfl,hk⟩ | ⟨rfl,S,n,hk⟩
  ·obtain⟨its,_,pl,_⟩:=I.list hq
   refine⟨pl.isList.typeIs,fun a e=> ?_⟩
   cases e
   obtain⟨o,n,e,c,hd,_⟩:=pl
   exact⟨o,e,hd⟩
  ·refine⟨⟨o,I.kIn p o hk,hc⟩,fun a e=> ?_⟩
   cases e
   exact⟨o,I.kIn _ o hk,hd⟩
  ·have z: ∃ o,s.heap.get? p=some o∧o.ExactDict:=by
    rcases hk with ⟨kvs,hk⟩ | ⟨kvs,hk⟩
    ·obtain⟨_,_,_,_,o,_,_,e,ex,_⟩:=I.hok p _ hk
     exact⟨o,e,ex⟩
    ·obtain⟨_,_,_,_,o,_,_,e,ex,_⟩:=I.hok p _ hk
     exact⟨o,e,ex⟩
   obtain⟨o,e,ex⟩:=z
   refine⟨⟨o,e,ex.1⟩,fun a e2=> ?_⟩
   cases e2
   exact⟨o,e,ex.2.1⟩
  ·obtain⟨o,_,_,_,e,ex,_⟩:=I.hok p _ hk
   refine⟨⟨o,e,ex.1⟩,fun a e2=> ?_⟩
   cases e2
   exact⟨o,e,ex.2.1⟩
 | _=>exact False.elim ty
noncomputable def tBM (K:PySem.W.Frag) (T:String) (r:V→List V→Hp→VK→Prop) (to:TE) (t:TA):TE:=fun σ H Q=>to σ H fun x H1=>tyV K T x H1∧t σ H1 fun xs H2=>r x xs H2 Q
variable {o e:Expr} {es:List Expr} {to:TE} {t:TA} {name:Str} {apos cpos:Pos} {T id:String} {r:V→List V→Hp→VK→Prop}
theorem wS (pa:PlainAttrs T) (slot:Slot T name id) (hty:typeOf (.builtin id)=pure (.type "method_descriptor")) (hm:MtR X id r) (ho:PE X o to) (ha:PA X (e::es) t)
  (hbase:attributeBase o name X.env (eval o X.env)=eval o X.env:=by rfl)
  (hfew:((backTo cpos (starEach (e::es) X.env)).all (fun x=> !x.1)&&(backToKw cpos (keywordEach [] X.env)).all (fun x=>x.1.isSome)
   &&decide ((e::es).length+([]:List Keyword).length+(if([]:List Keyword).isEmpty then 0 else 1)<30))=true:=by rfl)
  (hline:(apos.endLine==cpos.line)=true:=by rfl) (hs:starEach (e::es) X.env=(false,eval e X.env)::starEach es X.env:=by rfl) (hplain:(backTo cpos (starEach es X.env)).any (·.1)=false:=by rfl):
  PE X (.Call (.Attribute o name apos) (e::es) [] cpos) (tBM X.K T r to t):=by
 intro pins s σ H Q I h
 refine wpAny_Call_method_late hbase hfew hline rfl (thn (ho pins s σ H _ I h) fun v s1 hz_=> ?_)
 obtain⟨x,H1,I1,r1,ty,q1⟩:=hz_
 obtain⟨h1,h2⟩:=aAp I1 r1 ty
 refine⟨T,id,pa,slot,hty,h1,h2, ?_⟩
 have hA:=ha cpos pins s1 σ H1 _ I1 q1
 rw [hs] at hA ⊢
 refine Calls.callWith_builtin (by show(false||(backTo cpos (starEach es X.env)).any (·.1))=false;rw [hplain]<;>rfl) (Calls.evalArgs_plain ?_)
 exact thn hA fun us s2 ⟨vs,H2,I2,r2,q2⟩=>hm pins s2 σ H2 x vs v us Q I2 r1 r2 q2
end
def MtM (X:Cx) (id:String) (r:V→List V→Hp→VK→Prop):Prop:=
 ∀ (pins:List (Addr×Obj)) (s:Shared) (σ:St) (H:Hp) (x:V) (xs:List V) (v:Value) (us:List Value) (Q:VK),Inv X pins σ H s→RelV x v→Vals xs us→r x xs H Q→
  wpAny (model X.prog X.w) X.A (call (.builtin id) (v::us)) (EP X pins σ Q) X.xe s
theorem Vals.one: ∀ {x:V} {us:List Value},Vals [x] us→ ∃ u,us=[u]∧RelV x u
 | _,_, .cons r .nil=>⟨_,rfl,r⟩
theorem Vals.two: ∀ {x y:V} {us:List Value},Vals [x,y] us→ ∃ u v,us=[u,v]∧RelV x u∧RelV y v
 | _,_,_, .cons r (.cons q .nil)=>⟨_,_,rfl,r,q⟩
theorem Vals.rep {xs:List V} {us:List Value} (h:Vals xs us): ∀ k:Nat,Vals (List.replicate k xs).flatten (List.replicate k us).flatten
 | 0=> .nil
 | k+1=>by
  rw [List.replicate_succ,List.replicate_succ,List.flatten_cons,List.flatten_cons]
  exact Vals.append h (Vals.rep h k)
theorem iP (its:List Value): ∀ (k:Nat) (acc:List Value),
  List.foldl (fun x1 x2=>x1++x2) acc.toArray (List.replicate k its.toArray)=(acc++(List.replicate k its).flatten).toArray
 | 0,acc=>by simp
 | k+1,acc=>by
  have e:acc.toArray++its.toArray=(acc++its).toArray:=by simp
  have e2:(acc++its)++(List.replicate k its).flatten=acc++(List.replicate (k+1) its).flatten:=by
   rw [List.replicate_succ,List.flatten_cons,List.append_assoc]
  rw [←e2, ←iP its k (acc++its), ←e,List.replicate_succ,List.foldl_cons]
section
variable {X:Cx} {pins:List (Addr×Obj)} {σ:St} {H:Hp} {s:Shared} {l b:Addr} {xs ys zs:List V}
theorem Inv.lset {its its':List Value} {n:Nat} {f:Array Value→Array Value} {t':Nat} (I:Inv X pins σ H s) (hH:H l=some (.lst xs))
  (e:s.heap.get? l=some { cls:= .type "list",data:= .seq its.toArray n }) (hf:f its.toArray=its'.toArray) (hv:Vals ys its') (hz:ys.length≤sizeLine):
  Inv X pins σ (upd H l (.lst ys)) { s with heap:=s.heap.update l (Obj.mapSeq f),toks:=t' }:=by
 have q:=PySem.IsL.update e f
 rw [hf] at q
 refine I.write (x:=l) (e:=l) (by rw [hH];exact trivial) (.inl rfl) (fun b' u hb hu=>(Heap.get?_update_other s.heap (Obj.mapSeq f) (Ne.symm hb)).trans hu) ⟨_,q⟩ ?_
 exact⟨hz,its',_,hv,q⟩
theorem Inv.lnew {its:List Value} {t':Nat} (I:Inv X pins σ H s) (hv:Vals ys its) (hz:ys.length≤sizeLine):
  Inv X pins σ (upd H s.heap.objs.size (.lst ys)) { s with heap:=s.heap.push { cls:= .type "list",data:= .seq its.toArray },toks:=t' }:=
 I.laid (fun _ _ q=>Heap.get?_push_of_some _ q) (Nat.le_refl _) ⟨hz,its,0,hv,Heap.get?_push_size _ rfl⟩
theorem Inv.fresh (I:Inv X pins σ H s):H s.heap.objs.size=none:=I.hok.fresh (Nat.le_refl _)
theorem Inv.lstM (I:Inv X pins σ H s) (hH:H l=some (.lst xs)):xs.length≤sizeLine∧ ∃ (its:List Value) (n:Nat),Vals xs its∧xs.length=its.length∧s.heap.get? l=some { cls:= .type "list",data:= .seq its.toArray n }:=by
 obtain⟨z,its,n,r,e⟩:=I.hok l _ hH
 exact⟨z,its,n,r,r.length,e⟩
theorem lH {n:Nat} (h:n≤sizeLine):Builtin.List.listTooLong n=false:=by
 unfold Builtin.List.listTooLong
 exact decide_eq_false (by omega)
end
section
variable {X:Cx}
noncomputable def rAppend:V→List V→Hp→VK→Prop:=fun x vs H Q=> ∃ l xs y,x= .ref l∧vs=[y]∧H l=some (.lst xs)∧xs.length<sizeLine∧Q .non (upd H l (.lst (xs++[y])))
theorem iQ:MtM X "list.append" rAppend:=by
 intro pins s σ H x vs v us Q I rx rv h
 obtain⟨l,xs,y,rfl,rfl,hH,hz,q⟩:=h
 cases rx
 obtain⟨u,rfl,ru⟩:=rv.one
 obtain⟨z,its,n,r,hl,e⟩:=I.lstM hH
 refine call_meets F.slot_list_append ⟨_,e,rfl⟩ F.entry_list_append (F.args_list_append_2 _ _) (PySem.list_append l its.toArray n u (by rw [List.size_toArray];omega)) ⟨e, ?_⟩
 refine⟨.non,_,I.lset (its':=its++[u]) hH e (by simp) (r.append (.cons ru .nil)) ?_,rfl,q⟩
 rw [List.length_append,List.length_singleton]
 omega
theorem j0 {α:Type} (xs:List α) (k:Nat):(List.replicate k xs).flatten.length=k * xs.length:=by
 induction k with
 | zero=>simp
 | succ k ih=>rw [List.replicate_succ,List.flatten_cons,List.length_append,ih,Nat.succ_mul,Nat.add_comm]
end
section
variable {prog:Program} {w:World} {A:Around} {E:Value→Shared→Prop} {s:Shared}
end
section
variable {X:Cx}
end
end L2
namespace Att
open PySem PySem.W PySem.Calls PyProof.Rows
theorem eK {P:Params} {h:Heap}: ∀ (ns:List Int) (vs:List Value),WellAll P h vs (ns.map WData.int)→IntsAre vs ns:=by
 intro ns
 induction ns with
 | nil=>
  intro vs w
  rw [List.map_nil] at w
  cases w
  exact .nil
 | cons n ns ih=>
  intro vs w
  rw [List.map_cons] at w
  cases w with
  | cons a b=>
   cases a
   exact .cons _ _ (ih _ b)
theorem oI {l:OpenLaw} {n:Nat} (hn:l.most=some n) {P:Params} {h:Heap} {args:List WData} {vals:List Value}
  (hpre:l.row.toRowW.claim.pre args=true) (hwl:WellAll P h vals args):
  ∃ a vs ns,vals=[Value.ref a]∧args=[WData.list (ns.map WData.int)]∧h.get? a=some { cls:= .type "list",data:= .seq vs.toArray }∧IntsAre vs ns∧ns.length≤n:=by
 have hsh:WShape.hasAll [] args [.list .int]=true:=(pre_splitW hpre).1
 have hc:l.pre.holds [] { args:=args }=true:=(pre_splitW hpre).2
 obtain⟨d,r,rfl,h1,h2⟩:=hasAllW_cons hsh
 obtain rfl:=hasAllW_nil h2
 obtain⟨xs,rfl,h3⟩:=hasW_list h1
 obtain⟨ns,rfl⟩:=items_int h3
 have hlen:ns.length≤n:=by
  unfold OpenLaw.pre at hc
  have h4:(WTm.not (.lt (.lit (.int (n:Int))) (.len (.arg 0)))).holds [] { args:=[.list (ns.map .int)] }=true:=by
   have h4:=(holds_andW hc).1
   rw [hn] at h4
   exact h4
  have h5:=condW_of h4 (w_not (w_lt w_lit (w_len_list (w_arg rfl))))
  rw [List.length_map] at h5
  refine Nat.le_of_not_lt fun q=> ?_
  have q':(n:Int)<((ns.length:Nat):Int):=by omega
  first
   | (rw [decide_eq_true q'] at h5;exact absurd h5 (by decide))
   | (simp at h5;omega)
 cases hwl with
 | cons w1 w2=>
  cases w2
  cases w1 with
  | list ho hall=>exact⟨_,_,ns,rfl,rfl,ho,eK ns _ hall,hlen⟩
theorem oJ (l:OpenLaw) (args:List WData):l.row.toRowW.claim.post args (.bool true) args=true:=
 postW_of (r:=l.row.toRowW) (X:=(true==true))
  (show WShape.has [] (.bool true) .bool=true by first | rfl | decide | simp [WShape.has,WShape.arms,WShape.armsAll])
  (show(WTm.eq .res (.lit (.bool true))).value [] { args:=args,res:=some (.bool true),after:=args }=some (.bool (true==true)) from w_eq_bool (w_res rfl) w_lit) rfl
theorem attach_call {l:OpenLaw} {n:Nat} {q:Program} {loose:List Str} {XP:(Str→Option Value)→Heap→Prop} {YP:World→Heap→Prop} {d:DefRec}
  (hn:l.most=some n) (hdf:d.params.defaults=[])
  (call: ∀ (w:World) (s₀ s₁:Shared) (mg mb:Str→Option Value) (fa:Addr) (o:Obj) (pm cd doc:Value) (a:Addr) (vs:List Value) (ns:List Int),
   Ground q loose [] XP w s₀ mg mb s₁.heap→YP w s₁.heap→
   s₁.heap.get? fa=some o→o.data= .func (docDef d.name d.params d.body d.scope pm cd doc)→s₁.heap.CodeRec cd d.name→mg d.name=some (.ref fa)→
   s₁.heap.get? a=some { cls:= .type "list",data:= .seq vs.toArray }→IntsAre vs ns→ns.length≤n→s₁.gens= #[]→
   codeAny (model l.prog w) callerA (.call (.ref fa) ⟨[.ref a],[]⟩) (fun r s'=>r= .ok (.ret (.bool true))∧OldK s₁.heap s'.heap∧s'.os=s₁.os∧AllBare s'.gens) s₁):
  WalkO q loose XP YP l.row.toRowW d [] (fun f vs=>PySem.call f vs):=by
 intro w s₀ s₁ mg mb G Y fa o pm cd doc dV kV ho hd hcd hD hmg hg args vals as hpre hlay hrd hwl hlo
 obtain rfl:dV= .none:=Dflts.none hD hdf
 obtain rfl:kV= .none:=Dflts.noKw hD
 obtain⟨a,vs,ns,rfl,rfl,hobj,hints,hlen⟩:=oI hn hpre hwl
 refine enter_call (codeAny_mono (call w s₀ s₁ mg mb fa o pm cd doc a vs ns G Y ho (fd_plain hd) hcd hmg hobj hints hlen hg) fun r s' hq=> ?_)
 obtain⟨rfl,h2,h3,h4⟩:=hq
 exact⟨.inl ⟨.bool true, .bool true,[],rfl,fun _=>rfl, .bool true,oJ l _,fun _=>⟨List.Pairwise.nil,fun _ hm=>(nomatch hm)⟩⟩,h2,h3,h4⟩
section
variable {prog:Program} {w:World} {A:Around} {E:Value→Shared→Prop} {s:Shared} {K:Frag}
noncomputable def ledger (h:Heap) (L d:Addr):List (Addr×Obj):=(List.range h.objs.size).filterMap fun a=>if a=L∨a=d then none else(h.get? a).map fun o=>(a,o)
end
end Att
namespace L2
open PySem PySem.Spec PyProof.Rows
theorem iR: ∀ {vs:List Value} {ns:List Int},IntsAre vs ns→Vals (ns.map V.int) vs
 | _,_, .nil=> .nil
 | _,_, .cons n t h=> .cons ⟨t,rfl⟩ (iR h)
def Only (H:Hp):Prop:= ∀ b,H b=none∨ ∃ o xs,H b=some (.frz o (.lst xs))
theorem sN {P:Program} {w:World} {K:PySem.W.Frag} {mg mb:Str→Option Value} {CX:CXT} {k:Nat} {fa a:Addr} {fd:FuncData} {x:Str} {sp:Sp} {s₁:Shared} {vs:List Value} {ns:List Int}
  (KX:K.In s₁.heap) (hns:s₁.heap.Ns mainGlobals mg) (hb:s₁.heap.Ns builtinsNs mb) (hbb: ∀ x:Str,x≠"__name__"→mb x=bootBuiltins x) (hlim:s₁.heap.NoLimit) (hg:s₁.gens= #[])
  (ha:s₁.heap.get? a=some { cls:= .type "list",data:= .seq vs.toArray }) (hi:IntsAre vs ns) (hl:ns.length≤sizeLine) (hr:Room k callerA)
  (F: ∀ base:Heap,K.In base→base.Ns mainGlobals mg→FnOk P w K mg base CX k fa fd [x] sp) (hbind: ∀ (s:Shared) (u:Value),BindsTo s fd ⟨[u],[]⟩ [(x,u)])
  (hsp: ∀ H:Hp,Only H→SqL K H a (ns.map V.int)→sp [.ref a] H (fun v _=>v= .bl true) fun _ _ _=>False)
  (hCX: ∀ H e s',CX [] H s₁ (fun _ _ _=>False) e s'→False):
  codeAny (model P w) callerA (.call (.ref fa) ⟨[.ref a],[]⟩) (fun r s'=>r= .ok (.ret (.bool true))∧OldK s₁.heap s'.heap∧s'.os=s₁.os∧AllBare s'.gens) s₁:=by
 have rv:=iR hi
 have lenV:=hi.length
 -- from an abstract heap in which nothing but the script may be tracked
 have core: ∀ H:Hp,Only H→SqL K H a (ns.map V.int)→HOk P w H s₁.heap→(∀ b,H b≠none→b=a)→(H a≠none→K.lookup a=none)→
   codeAny (model P w) callerA (.call (.ref fa) ⟨[.ref a],[]⟩) (fun r s'=>r= .ok (.ret (.bool true))∧OldK s₁.heap s'.heap∧s'.os=s₁.os∧AllBare s'.gens) s₁:=by
  intro H hO hS hok hA hK
  have base_of: ∀ {b:Addr} {o:Obj},s₁.heap.get? b=some o→H b=none→(hidT s₁.heap H).get? b=some o:=fun e n=>sD e n
  have noA: ∀ {b:Addr} {o:Obj} {es:Array DictEntry} {ep:Nat},s₁.heap.get? b=some o→o.data= .dict es ep→H b=none:=fun {b o es ep} e d=>by
   cases q:H b with
   | none=>rfl
   | some u=>
    have e':b=a:=hA b (by rw [q];simp)
    subst e'
    rw [ha] at e;cases e
    have d':Data.seq vs.toArray _=Data.dict es ep:=d
    cases d'
  have nsK: ∀ {b:Addr} {m:Str→Option Value},s₁.heap.Ns b m→(hidT s₁.heap H).Ns b m:=fun {b m} ⟨o,es,ep,e,d,r⟩=>⟨o,es,ep,base_of e (noA e d),d,r⟩
  have hKb:K.In (hidT s₁.heap H):=fun b o e=>base_of (KX b o e) (by
   cases q:H b with
   | none=>rfl
   | some u=>
    have e':b=a:=hA b (by rw [q];simp)
    subst e'
    rw [hK (by rw [q];simp)] at e;cases e)
  have hM:Mod K mg (hidT s₁.heap H):=⟨hKb,nsK hns,⟨mb,nsK hb,hbb⟩,let ⟨mc,h1,h2⟩:=hlim;⟨mc,nsK h1,h2⟩⟩
  have e0:Env0 P w K mg (hidT s₁.heap H) callerA [] s₁ H:=⟨rfl,hM,fun b o e=>wG e,Nat.le_of_eq (n9 _ _),trivial,fun b hb=>absurd (show b∈([]:List Addr) from hb) (by simp),hok, .of_eq hg⟩
  refine codeAny_mono ((F _ hKb (nsK hns)).run callerA [] s₁ H ⟨[.ref a],[]⟩ [.ref a] [.ref a] _ _ hr e0 (hbind s₁ (.ref a)) (.cons rfl .nil) (hsp H hO hS)) fun r s' h=> ?_
  cases r with
  | error e=>exact(hCX H e s' h).elim
  | ok fl=>
   cases fl with
   | next=>exact False.elim h
   | brk=>exact False.elim h
   | cont=>exact False.elim h
   | ret u=>
    obtain⟨v,H',os,bare,un,hok',r',q⟩:=h
    have q':v= .bl true:=q
    subst q'
    obtain rfl:u=Value.bool true:=r'
    refine⟨rfl,OldK.of_keep fun b o e=> ?_,os,bare⟩
    cases q:H b with
    | none=>exact un.keep b o e q (by intro z;exact absurd (show b∈([]:List Addr) from z) (by simp)) (by simp)
    | some u=>
     rcases hO b with z | ⟨ob,xs,z⟩
     ·rw [q] at z;cases z
     ·have z2:=un.frzs b ob _ z
      obtain⟨e1,_⟩:=hok b _ z
      obtain⟨e2,_⟩:=hok' b _ z2
      rw [e] at e1;cases e1
      exact e2
 cases hk:K.lookup a with
 | some o=>
  -- the script is one of the module's own objects
  have e:=KX a o hk
  rw [ha] at e
  cases e
  refine core (fun _=>none) (fun _=> .inl rfl) (.inr ⟨_,vs.toArray,_,hk,rfl,rfl,rfl,by rw [List.size_toArray,lenV];exact hl,by simpa using rv⟩) (fun b u z=>by have z':(none:Option HO)=some u:=z;cases z') (fun b z=>absurd rfl z) fun z=>absurd rfl z
 | none=>
  refine core (fun b=>if b=a then some (.frz { cls:= .type "list",data:= .seq vs.toArray } (.lst (ns.map V.int))) else none) (fun b=> ?_) (.inl (.inr ⟨{ cls:= .type "list",data:= .seq vs.toArray },if_pos rfl⟩)) (fun b u z=> ?_) (fun b z=> ?_) fun _=>hk
  ·by_cases hb:b=a
   ·exact .inr ⟨_,_,if_pos hb⟩
   ·exact .inl (if_neg hb)
  ·by_cases hb:b=a
   ·have z':=(if_pos hb).symm.trans z
    cases z'
    subst hb
    exact⟨ha,by rw [List.length_map];exact hl,vs,_,rv,ha⟩
   ·have z':=(if_neg hb).symm.trans z
    cases z'
  ·by_cases hb:b=a
   ·exact hb
   ·exact absurd (if_neg hb) z
noncomputable abbrev KOf {K:PySem.W.Frag} {h:Heap} (_:K.In h):PySem.W.Frag:=K
theorem walk_of {l:PySem.W.OpenLaw} {n k:Nat} {q:Program} {loose:List Str} {XP:(Str→Option Value)→Heap→Prop} {YP:World→Heap→Prop} {d:DefRec} {K:Params→PySem.W.Frag} {CX:World→CXT} {sp:World→Sp} {x:Str}
  (hn:l.most=some n) (hn2:n≤sizeLine) (hdf:d.params.defaults=[]) (hr:Room k callerA)
  (hY: ∀ (w:World) (h:Heap),YP w h→(K w.params).In h)
  (F: ∀ (w:World) (mg:Str→Option Value) (fa:Addr) (h:Heap),(K w.params).In h→h.Ns mainGlobals mg→mg d.name=some (.ref fa)→
   ∃ fd:FuncData,(∀ (s:Shared) (u:Value),BindsTo s fd ⟨[u],[]⟩ [(x,u)])∧
    ∀ base:Heap,(K w.params).In base→base.Ns mainGlobals mg→FnOk l.prog w (K w.params) mg base (CX w) k fa fd [x] (sp w))
  (hsp: ∀ (w:World) (H:Hp) (a:Addr) (ns:List Int),ns.length≤n→Only H→SqL (K w.params) H a (ns.map V.int)→sp w [.ref a] H (fun v _=>v= .bl true) fun _ _ _=>False)
  (hCX: ∀ (w:World) (H:Hp) (s:Shared) (e:Value) (s':Shared),CX w [] H s (fun _ _ _=>False) e s'→False):
  PySem.W.WalkO q loose XP YP l.row.toRowW d [] (fun f vs=>PySem.call f vs):=by
 refine Att.attach_call hn hdf fun w s₀ s₁ mg mb fa o pm cd doc a vs ns G Y ho hd hcd hmg hobj hints hlen hg=> ?_
 have KX:=hY w _ Y
 obtain⟨fd,hb,hF⟩:=F w mg fa _ KX G.T.g hmg
 exact sN KX G.T.g G.T.b G.T.builtins G.T.nolimit hg hobj hints (Nat.le_trans hlen hn2) hr hF hb (fun H hO hS=>hsp w H a ns hlen hO hS) fun H e s'=>hCX w H s₁ e s'
structure Fun (K:PySem.W.Frag) (x qual:Str) (st:Stmt) (f:Addr) (fd:FuncData):Prop where
 ex: ∃ (oc:Value) (od:Option Addr) (kV doc pm:Value) (an:Option Addr) (cdv ct:Value) (osl:Array (Option Value)),
  fd=PySem.W.fnOf x qual (defArgs st) (defBody st) (defScope st) .none kV doc pm an cdv ct∧K.lookup f=some ⟨oc,od, .func fd,osl⟩∧PySem.W.codeIn K cdv qual=true
 kp:PySem.W.keepIn K (.ref f)=true
section
variable {P:Program} {w:World} {K:PySem.W.Frag} {mg:Str→Option Value} {base:Heap}
theorem Fun.binds {x qual:Str} {st:Stmt} {f:Addr} {fd:FuncData} {ps:List Str} (F:Fun K x qual st f fd)
  (h: ∀ (kV doc pm:Value) (an:Option Addr) (cdv ct:Value) (us:List Value),us.length=ps.length→bindArgs (PySem.W.fnOf x qual (defArgs st) (defBody st) (defScope st) .none kV doc pm an cdv ct) ⟨us,[]⟩=pure (ps.zip us)):Binds K fd ps []:=by
 obtain⟨oc,od,kV,doc,pm,an,cdv,ct,osl,rfl,lk,hcd⟩:=F.ex
 exact .all (h kV doc pm an cdv ct)
theorem oK {x qual:Str} {st:Stmt} {f:Addr} {oc:Value} {od an:Option Addr} {osl:Array (Option Value)} {kV doc pm cdv ct:Value} (l:K.lookup f=some ⟨oc,od, .func (PySem.W.fnOf x qual (defArgs st) (defBody st) (defScope st) .none kV doc pm an cdv ct),osl⟩)
  (c:PySem.W.codeIn K cdv qual=true) (k:PySem.W.keepIn K (.ref f)=true):Fun K x qual st f (PySem.W.fnOf x qual (defArgs st) (defBody st) (defScope st) .none kV doc pm an cdv ct):=⟨⟨oc,od,kV,doc,pm,an,cdv,ct,osl,rfl,l,c⟩,k⟩
end
section
variable {X:Cx}
end
theorem iteF {A B:Prop} (h:B):if false=true then A else B:=by
 rw [if_neg Bool.false_ne_true]
 exact h
theorem iteT {A B:Prop} (h:A):if true=true then A else B:=by
 rw [if_pos rfl]
 exact h
def Same (H H':Hp):Prop:= ∀ b o,H b=some o→H' b=some o
theorem Same.refl (H:Hp):Same H H:=fun _ _ h=>h
theorem Same.trans {H H1 H2:Hp} (a:Same H H1) (b:Same H1 H2):Same H H2:=fun c o h=>b c o (a c o h)
theorem Same.free {H H':Hp} (e:Same H H') {l:Addr} (h:H' l=Option.none):H l=Option.none:=by
 cases q:H l with
 | none=>rfl
 | some o=>
  rw [e l o q] at h
  cases h
theorem Same.seq {K:PySem.W.Frag} {H H':Hp} {a:Addr} {xs:List V} (e:Same H H') (h:SqL K H a xs):SqL K H' a xs:=by
 rcases h with (h | ⟨o,h⟩) | h
 ·exact .inl (.inl (e _ _ h))
 ·exact .inl (.inr ⟨o,e _ _ h⟩)
 ·exact .inr h
end L2
namespace SK
open PySem PySem.Spec PyProof.Rows L2
open PySem.AutoSeq1 (wpAny_loadPart' idx_int)
theorem iS (l:Addr) (items:Array Value) (n:Nat) (b:Addr) (items2:Array Value) (n2:Nat) (dd2:Option Addr) (sl2:Array (Option Value)) (hc0: ¬(!items.isEmpty&&Builtin.List.listTooLong (items.size+items2.size))=true) (hc1:items.size≤sizeLine) (hs2:items.size+items2.size≤sizeLine+1):
  Meets (Builtin.«list.extend» ⟨[.ref l, .ref b],[]⟩) (fun _ R s=>s.heap.get? l=some { cls:= .type "list",dict:=none,data:= .seq items n,slots:= #[] }∧s.heap.get? b=some { cls:= .type "list",dict:=dd2,data:= .seq items2 n2,slots:=sl2 }∧R (.ok (.ret Value.none)) { s with heap:=s.heap.update l (Obj.mapSeq fun x=>x++items2),toks:=s.toks }):=
 .of_wp fun prog w A R s h=>by
  obtain⟨hp,g,d,tk,os⟩:=s;obtain⟨hl,hb,h⟩:=h;have f1:=idx_int;have f2:=AutoSeq1.sub_tuple_tuple;have f3:=AutoSeq1.sub_list_list;have f4:=AutoSeq1.sub_tuple_list;have f5:=AutoSeq1.sub_list_tuple;
  have hz':(items++items2).size≤sizeLine+1:=by rw [Array.size_append];exact hs2
  wp_walk using (wpAny_updateSeq hl rfl (hz:=hc1) (_hz':=hz')),wpAny_loadPart' hl,wpAny_loadPart' hb;exact⟨_,rfl,h⟩
theorem cT (a:Int) (t:Tok) (l:Addr) (items:Array Value) (n:Nat) (T:String) (dd:Option Addr) (sl:Array (Option Value)) (hT:T="list"∨T="tuple"):
  Meets (Builtin.«int.__rmul__» ⟨[.int a t, .ref l],[]⟩) (fun _ R s=>s.heap.get? l=some { cls:= .type T,dict:=dd,data:= .seq items n,slots:=sl }∧R (.ok (.ret Value.notImplemented)) s):=
 .of_wp fun prog w A R s h=>by
  obtain⟨hp,g,d,tk,os⟩:=s;obtain⟨hl,h⟩:=h
  rcases hT with rfl | rfl<;>(wp_walk using wpAny_loadPart' hl;exact⟨_,rfl,h⟩)
theorem oM (l:Addr) (items:Array Value) (n:Nat) (x:Int) (u:Tok) (dd:Option Addr) (sl:Array (Option Value)) (hc0: ¬(!Builtin.List.listFitsIndex x)=true) (hc1: ¬items.size * x.toNat > (2 ^ 63 - 1) / 8) (hc2: ¬Builtin.List.listTooLong (items.size * x.toNat)=true):
  Meets (Builtin.«list.__mul__» ⟨[.ref l, .int x u],[]⟩) (fun _ R s=>s.heap.get? l=some { cls:= .type "list",dict:=dd,data:= .seq items n,slots:=sl }∧R (.ok (.ret (Value.ref s.heap.objs.size))) { s with heap:=s.heap.push { cls:=Value.type "list",data:=Data.seq (List.foldl (fun x1 x2=>x1++x2) #[] (List.replicate (if items.isEmpty=true then 0 else x.toNat) items)) },toks:=s.toks }):=
 .of_wp fun prog w A R s h=>by
  obtain⟨hp,g,d,tk,os⟩:=s;obtain⟨hl,h⟩:=h
  have hsz:=AutoListH.joined_fits hc2
  wp_walk using wpAny_loadPart' hl;refine wpAny_ite_false (decide_eq_false (Nat.not_lt.mpr hsz)) ?_;wp_walk;exact⟨_,rfl,h⟩
open PySem.AutoSeq1 (wpAny_loadPart' idx_int)
theorem j4 (l:Addr) (items:Array Value) (n:Nat) (x:Int) (u:Tok) (dd:Option Addr) (sl:Array (Option Value)) (h0:(decide (x< -(2 ^ 63))||decide (x≥2 ^ 63))=false) (hc:(items.isEmpty||x==1)=true):
  Meets (Builtin.«tuple.__mul__» ⟨[.ref l, .int x u],[]⟩) (fun _ R s=>s.heap.get? l=some { cls:= .type "tuple",dict:=dd,data:= .seq items n,slots:=sl }∧R (.ok (.ret (Value.ref l))) s):=
 .of_wp fun prog w A R s h=>by
  obtain⟨hp,g,d,tk,os⟩:=s;obtain⟨hl,h⟩:=h
  have f1:=idx_int
  wp_walk;refine wpAny_ite_false (by rw [h0];rfl) ?_;wp_walk using wpAny_loadPart' hl;exact⟨_,rfl,h⟩
theorem j5 (l:Addr) (items:Array Value) (n:Nat) (x:Int) (u:Tok) (dd:Option Addr) (sl:Array (Option Value)) (h0:(decide (x< -(2 ^ 63))||decide (x≥2 ^ 63))=false) (hc: ¬(items.isEmpty||x==1)=true) (hc1:(x≤0||items.isEmpty)=true):
  Meets (Builtin.«tuple.__mul__» ⟨[.ref l, .int x u],[]⟩) (fun _ R s=>s.heap.get? l=some { cls:= .type "tuple",dict:=dd,data:= .seq items n,slots:=sl }∧R (.ok (.ret (Value.ref s.heap.objs.size))) { s with heap:=s.heap.push { cls:=Value.type "tuple",data:=Data.seq #[] },toks:=s.toks }):=
 .of_wp fun prog w A R s h=>by
  obtain⟨hp,g,d,tk,os⟩:=s;obtain⟨hl,h⟩:=h
  have f1:=idx_int
  wp_walk;refine wpAny_ite_false (by rw [h0];rfl) ?_;wp_walk using wpAny_loadPart' hl;exact⟨_,rfl,h⟩
theorem j6 (l:Addr) (items:Array Value) (n:Nat) (x:Int) (u:Tok) (dd:Option Addr) (sl:Array (Option Value)) (h0:(decide (x< -(2 ^ 63))||decide (x≥2 ^ 63))=false) (hc: ¬(items.isEmpty||x==1)=true) (hc1: ¬(x≤0||items.isEmpty)=true)
  (hc2: ¬ (items.size:Int) * x > (2 ^ 63 - 1) / 8) (hc3: ¬ Builtin.Tuple.tupleTooMany (items.size * x)=true) (hsz:(List.foldl (fun x1 x2=>x1++x2) #[] (List.replicate x.toNat items)).size≤sizeLine):
  Meets (Builtin.«tuple.__mul__» ⟨[.ref l, .int x u],[]⟩) (fun _ R s=>s.heap.get? l=some { cls:= .type "tuple",dict:=dd,data:= .seq items n,slots:=sl }∧R (.ok (.ret (Value.ref s.heap.objs.size))) { s with heap:=s.heap.push { cls:=Value.type "tuple",data:=Data.seq (List.foldl (fun x1 x2=>x1++x2) #[] (List.replicate x.toNat items)) },toks:=s.toks }):=
 .of_wp fun prog w A R s h=>by
  obtain⟨hp,g,d,tk,os⟩:=s;obtain⟨hl,h⟩:=h
  have f1:=idx_int
  wp_walk;refine wpAny_ite_false (by rw [h0];rfl) ?_;wp_walk using wpAny_loadPart' hl;refine wpAny_ite_false (decide_eq_false hc2) ?_;wp_walk;exact⟨_,rfl,h⟩
theorem eA:fillsNumberSlot (.type "tuple") "mul"=pure false:=
 PySem.fillsNumberSlot_seq (id:="tuple.__mul__") (r:=some (.builtin "tuple.__rmul__")) F.slot_tuple_mul.lookup (by decide+kernel) F.slot_tuple_rmul.lookup (by decide+kernel)
theorem iT:seqRepeat? (.type "tuple")=pure (some (.builtin "tuple.__mul__")):=by
 unfold seqRepeat?
 rw [PySem.seqSlot_of (T:="tuple") (name:="__mul__") (id:="tuple.__mul__") F.slot_tuple_mul.lookup (by decide+kernel),PySem.seqSlot_of (T:="tuple") (name:="__rmul__") (id:="tuple.__rmul__") F.slot_tuple_rmul.lookup (by decide+kernel)]
 rfl
inductive D where
 | non | bl (b:Bool) | int (i:Int) | str (x:Str)
 | tup (xs:List D) | lst (xs:List D)
 | exc (c:Nat) | fn (f:Nat)
 deriving Inhabited
noncomputable def b2i (b:Bool):Int:=if b then 1 else 0
mutual
noncomputable def deq:D→D→Bool
 | .non, .non=>true
 | .bl a, .bl b=>a==b
 | .bl a, .int j=>b2i a==j
 | .int i, .bl b=>i==b2i b
 | .int i, .int j=>i==j
 | .str x, .str y=>x==y
 | .tup xs, .tup ys=>deqs xs ys
 | .lst xs, .lst ys=>deqs xs ys
 | _,_=>false
noncomputable def deqs:List D→List D→Bool
 | [],[]=>true
 | x::xs,y::ys=>deq x y&&deqs xs ys
 | _,_=>false
end
mutual
noncomputable def plain:D→Bool
 | .non=>true
 | .bl _=>true
 | .int _=>true
 | .str x=>x.cps.all (· <0x110000)
 | .tup xs=>plains xs
 | .lst xs=>plains xs
 | .exc _=>false
 | .fn _=>false
noncomputable def plains:List D→Bool
 | []=>true
 | x::xs=>plain x&&plains xs
end
mutual
noncomputable def dep:D→Nat
 | .tup xs=>deps xs+1
 | .lst xs=>deps xs+1
 | _=>0
noncomputable def deps:List D→Nat
 | []=>0
 | x::xs=>max (dep x) (deps xs)
end
noncomputable def eqOk (x y:D):Bool:=plain x&&plain y&&decide (min (dep x) (dep y)≤60)
inductive R where
 | ok (d:D) | ow (xs:List D) | ex (c:Nat) | bad
noncomputable def R.bind (r:R) (k:D→R):R:=match r with
 | .ok d=>k d
 | .ow xs=>k (.lst xs)
 | .ex c=> .ex c
 | .bad=> .bad
inductive Slot where
 | no | sh (d:D) | ow (xs:List D) | dc (kvs:List (D×D)) | sd (kvs:List (D×D))
noncomputable def Slot.owns:Slot→Bool
 | .ow _=>true
 | .dc _=>true
 | _=>false
abbrev Rho:=List Slot
abbrev F:=Rho→R
inductive Out where
 | nx (ρ:Rho) | rt (r:R) | bk (ρ:Rho) | ct (ρ:Rho) | ex (c:Nat) (ρ:Rho)
abbrev FS:=Rho→Out
abbrev Fn:=List D→R
noncomputable def LIM:Nat:=100000
noncomputable def num:D→Option Int
 | .int i=>some i
 | .bl b=>some (b2i b)
 | _=>none
noncomputable def sml (i:Int):Bool:=decide (-18446744073709551616<i)&&decide (i<18446744073709551616)
noncomputable def dArith (op:Operator) (i j:Int):R:=match op with
 | .Add=> .ok (.int (i+j))
 | .Sub=> .ok (.int (i - j))
 | .Mult=>if sml i||sml j then .ok (.int (i * j)) else .bad
 | .FloorDiv=>if 0<j∧j<1073741824 then .ok (.int (i / j)) else .bad
 | .Mod=>if 0<j then .ok (.int (i % j)) else .bad
 | .LShift=>if 0≤j∧j≤1000∧sml i=true then .ok (.int (i * 2 ^ j.toNat)) else .bad
 | .RShift=>if 0≤j then .ok (.int (i / 2 ^ j.toNat)) else .bad
 | _=> .bad
noncomputable def repL (xs:List D) (k:Int):List D:=(List.replicate k.toNat xs).flatten
noncomputable def dBin (op:Operator) (x y:D):R:=match x,y with
 | .int i, .int j=>(match op with
  | .BitAnd=> .ok (.int (Builtin.bitAnd i j))
  | .BitOr=> .ok (.int (Builtin.bitOr i j))
  | .BitXor=> .ok (.int (Builtin.bitXor i j))
  | op=>dArith op i j)
 | .int i, .bl b=>(match op with
  | .Sub=> .ok (.int (i - b2i b))
  | .Add=> .ok (.int (i+b2i b))
  | _=> .bad)
 | .tup xs, .tup ys=>(match op with
  | .Add=>if xs.length+ys.length≤LIM then .ok (.tup (xs++ys)) else .bad
  | _=> .bad)
 | .lst xs, .lst ys=>(match op with
  | .Add=>if xs.length+ys.length≤LIM then .ow (xs++ys) else .bad
  | _=> .bad)
 | .tup xs, .int k=>(match op with
  | .Mult=>if -1000000<k∧k<1000000∧xs.length * k.toNat≤LIM then .ok (.tup (repL xs k)) else .bad
  | _=> .bad)
 | .lst xs, .int k=>(match op with
  | .Mult=>if -1000000<k∧k<1000000∧xs.length * k.toNat≤LIM then .ow (repL xs k) else .bad
  | _=> .bad)
 | _,_=> .bad
noncomputable def items:D→Option (List D)
 | .tup xs=>some xs
 | .lst xs=>some xs
 | _=>none
noncomputable def isNon:D→Bool
 | .non=>true
 | _=>false
noncomputable def isBl (b:Bool):D→Bool
 | .bl a=>a==b
 | _=>false
noncomputable def inOk (x:D) (ys:List D):Bool:=ys.all fun y=>eqOk y x
noncomputable def dCmp (op:CmpOp) (x y:D):R:=match op with
 | .Eq=>if eqOk x y then .ok (.bl (deq x y)) else .bad
 | .NotEq=>if eqOk x y then .ok (.bl (!deq x y)) else .bad
 | .Lt=>(match x,y with | .int i, .int j=> .ok (.bl (decide (i<j))) | _,_=> .bad)
 | .LtE=>(match x,y with | .int i, .int j=> .ok (.bl (decide (i≤j))) | _,_=> .bad)
 | .Gt=>(match x,y with | .int i, .int j=> .ok (.bl (decide (j<i))) | _,_=> .bad)
 | .GtE=>(match x,y with | .int i, .int j=> .ok (.bl (decide (j≤i))) | _,_=> .bad)
 | .Is=>(match y with
  | .non=> .ok (.bl (isNon x))
  | .bl b=> .ok (.bl (isBl b x))
  | _=> .bad)
 | .IsNot=>(match y with
  | .non=> .ok (.bl (!isNon x))
  | .bl b=> .ok (.bl (!isBl b x))
  | _=> .bad)
 | .In=>(match items y with | some ys=>if inOk x ys then .ok (.bl (ys.any fun y=>deq y x)) else .bad | none=> .bad)
 | .NotIn=>(match items y with | some ys=>if inOk x ys then .ok (.bl (!ys.any fun y=>deq y x)) else .bad | none=> .bad)
noncomputable def ixD (n:Nat) (i:Int):Option Nat:=if 0≤i then(if i<n then some i.toNat else none) else if -(n:Int)≤i then some (i+n).toNat else none
noncomputable def dIx (x y:D):R:=match items x,y with
 | some xs, .int i=>(match(ixD xs.length i).bind fun j=>xs[j]? with | some d=> .ok d | none=> .bad)
 | _,_=> .bad
noncomputable def cutIx (n d:Nat):Option Int→Nat
 | none=>d
 | some v=>if v<0 then(v+n).toNat else min v.toNat n
noncomputable def cutD (xs:List D) (lo hi:Option Int):List D:=(xs.drop (cutIx xs.length 0 lo)).take (cutIx xs.length xs.length hi - cutIx xs.length 0 lo)
noncomputable def dCut (x:D) (lo hi:Option Int):R:=match x with
 | .tup xs=> .ok (.tup (cutD xs lo hi))
 | .lst xs=> .ow (cutD xs lo hi)
 | _=> .bad
noncomputable def pInt:D→(Int→R)→R
 | .int i,k=>k i
 | _,_=> .bad
noncomputable def rVar (i:Nat):F:=fun ρ=>match ρ[i]? with | some (.sh d)=> .ok d | _=> .bad
noncomputable def rLook (i:Nat):F:=fun ρ=>match ρ[i]? with | some (.sh d)=> .ok d | some (.ow xs)=> .ok (.lst xs) | _=> .bad
noncomputable def rGive (i:Nat):F:=fun ρ=>match ρ[i]? with | some (.sh d)=> .ok d | some (.ow xs)=> .ow xs | _=> .bad
noncomputable def rK (d:D):F:=fun _=> .ok d
noncomputable def rBin (op:Operator) (a b:F):F:=fun ρ=>(a ρ).bind fun x=>(b ρ).bind fun y=>dBin op x y
noncomputable def rNeg (a:F):F:=fun ρ=>(a ρ).bind fun x=>match x with | .int i=> .ok (.int (-i)) | _=> .bad
noncomputable def rNot (a:F):F:=fun ρ=>(a ρ).bind fun x=>match x with | .bl b=> .ok (.bl (!b)) | _=> .bad
noncomputable def rAnd (a b:F):F:=fun ρ=>(a ρ).bind fun x=>match x with | .bl true=>b ρ | .bl false=> .ok (.bl false) | _=> .bad
noncomputable def rOr (a b:F):F:=fun ρ=>(a ρ).bind fun x=>match x with | .bl true=> .ok (.bl true) | .bl false=>b ρ | _=> .bad
noncomputable def rIf (c a b:F):F:=fun ρ=>(c ρ).bind fun x=>match x with | .bl true=>a ρ | .bl false=>b ρ | _=> .bad
noncomputable def rCmp (op:CmpOp) (a b:F):F:=fun ρ=>(a ρ).bind fun x=>(b ρ).bind fun y=>dCmp op x y
noncomputable def rChain (op op':CmpOp) (a b c:F):F:=fun ρ=>(a ρ).bind fun x=>(b ρ).bind fun y=>(dCmp op x y).bind fun z=>match z with
 | .bl true=>(c ρ).bind fun w=>dCmp op' y w
 | .bl false=> .ok (.bl false)
 | _=> .bad
inductive RA where
 | ok (ds:List D) | ex (c:Nat) | bad
noncomputable def RA.cons (x:D):RA→RA
 | .ok ds=> .ok (x::ds)
 | .ex c=> .ex c
 | .bad=> .bad
noncomputable def RA.then (r:RA) (k:List D→R):R:=match r with
 | .ok ds=>k ds
 | .ex c=> .ex c
 | .bad=> .bad
noncomputable def args:List F→Rho→RA
 | [],_=> .ok []
 | f::fs,ρ=>match f ρ with
  | .ok x=>(args fs ρ).cons x
  | .ow xs=>(args fs ρ).cons (.lst xs)
  | .ex c=> .ex c
  | .bad=> .bad
noncomputable def rAll (fs:List F) (ρ:Rho) (k:List D→R):R:=(args fs ρ).then k
noncomputable def rTup (fs:List F):F:=fun ρ=>rAll fs ρ fun xs=> .ok (.tup xs)
noncomputable def rLst (fs:List F):F:=fun ρ=>rAll fs ρ fun xs=> .ow xs
noncomputable def rIx (a b:F):F:=fun ρ=>(a ρ).bind fun x=>(b ρ).bind fun y=>dIx x y
noncomputable def rCut (a:F) (lo hi:Option F):F:=fun ρ=>(a ρ).bind fun x=>match lo,hi with
 | none,none=>dCut x none none
 | some l,none=>(l ρ).bind fun y=>pInt y fun i=>dCut x (some i) none
 | none,some h=>(h ρ).bind fun z=>pInt z fun j=>dCut x none (some j)
 | some l,some h=>(l ρ).bind fun y=>pInt y fun i=>(h ρ).bind fun z=>pInt z fun j=>dCut x (some i) (some j)
noncomputable def rCall (f:Fn) (fs:List F):F:=fun ρ=>rAll fs ρ f
noncomputable def rCallV (tab:List (Nat×Fn)) (g:F) (fs:List F):F:=fun ρ=>(g ρ).bind fun x=>match x with
 | .fn k=>(match tab[k]? with | some (n,f)=>if n=fs.length then rAll fs ρ f else .bad | none=> .bad)
 | _=> .bad
noncomputable def rMeth (r:Fn) (a b:F):F:=fun ρ=>(a ρ).bind fun x=>match x with | .lst ds=>(b ρ).bind fun y=>r [.lst ds,y] | _=> .bad
noncomputable def rIs (p:D→Option Bool) (a:F):F:=fun ρ=>(a ρ).bind fun x=>match p x with | some b=> .ok (.bl b) | none=> .bad
noncomputable def compGo (f:D→Option (Option D)):List D→Option (List D)
 | []=>some []
 | d::r=>match f d with
  | none=>none
  | some none=>compGo f r
  | some (some x)=>(compGo f r).map (x:: ·)
noncomputable def tgt (n:Nat) (d:D):Option (List Slot):=match n with
 | 0=>some [.sh d]
 | n=>match d with
  | .tup ds=>if ds.length=n then some (ds.map Slot.sh) else none
  | _=>none
noncomputable def caps (cs:List Nat) (ρ:Rho):List Slot:=cs.map fun i=>(ρ[i]?).getD .no
noncomputable def compF (n:Nat) (cs:List Slot) (c:Option F) (e:F) (d:D):Option (Option D):=match tgt n d with
 | none=>none
 | some ts=>match c with
  | none=>(match e (ts++cs) with | .ok x=>some (some x) | .ow xs=>some (some (.lst xs)) | _=>none)
  | some c=>match c (ts++cs) with
   | .ok (.bl true)=>(match e (ts++cs) with | .ok x=>some (some x) | .ow xs=>some (some (.lst xs)) | _=>none)
   | .ok (.bl false)=>some none
   | _=>none
noncomputable def rComp (n:Nat) (cs:List Nat) (it:F) (c:Option F) (e:F):F:=fun ρ=>(it ρ).bind fun x=>match items x with
 | some ds=>(match compGo (compF n (caps cs ρ) c e) ds with | some xs=> .ow xs | none=> .bad)
 | none=> .bad
noncomputable def rngD (n:Nat):List D:=(List.range n).map fun(i:Nat)=>D.int (i:Int)
noncomputable def iRange (a:F):F:=fun ρ=>(a ρ).bind fun x=>pInt x fun i=>if -100000≤i∧i≤100000 then .ok (.lst (rngD i.toNat)) else .bad
noncomputable def iEnum (a:F):F:=fun ρ=>(a ρ).bind fun x=>match items x with
 | some xs=> .ok (.lst (xs.zipIdx.map fun p=>D.tup [.int (p.2:Nat),p.1]))
 | none=> .bad
noncomputable def iZip (a b:F):F:=fun ρ=>(a ρ).bind fun x=>(b ρ).bind fun y=>match x,y with
 | .tup xs, .tup ys=> .ok (.lst ((xs.zip ys).map fun p=>D.tup [p.1,p.2]))
 | .lst xs, .lst ys=> .ok (.lst ((xs.zip ys).map fun p=>D.tup [p.1,p.2]))
 | .lst xs, .tup ys=> .ok (.lst ((xs.zip ys).map fun p=>D.tup [p.1,p.2]))
 | .tup xs, .lst ys=> .ok (.lst ((xs.zip ys).map fun p=>D.tup [p.1,p.2]))
 | _,_=> .bad
noncomputable def dLen:Fn | [x]=>(match items x with | some xs=> .ok (.int xs.length) | none=> .bad) | _=> .bad
noncomputable def dInt:Fn | [.int i]=> .ok (.int i) | [.bl b]=> .ok (.int (b2i b)) | _=> .bad
noncomputable def dTuple:Fn | [x]=>(match items x with | some xs=> .ok (.tup xs) | none=> .bad) | _=> .bad
noncomputable def dList:Fn | [x]=>(match items x with | some xs=> .ow xs | none=> .bad) | _=> .bad
noncomputable def dInts:List D→Option (List Int)
 | []=>some []
 | .int i::r=>(dInts r).map (i:: ·)
 | _::_=>none
noncomputable def dBools:List D→Option (List Bool)
 | []=>some []
 | .bl b::r=>(dBools r).map (b:: ·)
 | _::_=>none
noncomputable def dSum:Fn | [x]=>(match(items x).bind dInts with | some xs=> .ok (.int xs.sum) | none=> .bad) | _=> .bad
noncomputable def dAll:Fn | [x]=>(match(items x).bind dBools with | some xs=> .ok (.bl (xs.all id)) | none=> .bad) | _=> .bad
noncomputable def dAny:Fn | [x]=>(match(items x).bind dBools with | some xs=> .ok (.bl (xs.any id)) | none=> .bad) | _=> .bad
noncomputable def dMax:Fn | [.int i, .int j]=> .ok (.int (if j > i then j else i)) | _=> .bad
noncomputable def dMin:Fn | [.int i, .int j]=> .ok (.int (if j<i then j else i)) | _=> .bad
noncomputable def maxL:Int→List Int→Int
 | m,[]=>m
 | m,i::r=>maxL (if m<i then i else m) r
noncomputable def minL:Int→List Int→Int
 | m,[]=>m
 | m,i::r=>minL (if i<m then i else m) r
noncomputable def dMax1:Fn | [x]=>(match(items x).bind dInts with | some (n::ns)=> .ok (.int (maxL n ns)) | _=> .bad) | _=> .bad
noncomputable def dAbs:Fn | [.int i]=> .ok (.int (if i<0 then -i else i)) | _=> .bad
noncomputable def insI (i:Int):List Int→List Int
 | []=>[i]
 | j::r=>if i≤j then i::j::r else j::insI i r
noncomputable def sortI:List Int→List Int
 | []=>[]
 | i::r=>insI i (sortI r)
noncomputable def lexB:List Int→List Int→Bool
 | [],[]=>false
 | [],_::_=>true
 | _::_,[]=>false
 | a::r,b::t=>if a=b then lexB r t else decide (a<b)
mutual
noncomputable def same:D→D→Bool
 | .int _, .int _=>true
 | .tup xs, .tup ys=>sames xs ys
 | _,_=>false
noncomputable def sames:List D→List D→Bool
 | [],[]=>true
 | x::xs,y::ys=>same x y&&sames xs ys
 | _,_=>false
end
mutual
noncomputable def flat:D→List Int
 | .int i=>[i]
 | .tup xs=>flats xs
 | _=>[]
noncomputable def flats:List D→List Int
 | []=>[]
 | x::xs=>flat x++flats xs
end
noncomputable def ltD (x y:D):Bool:=lexB (flat x) (flat y)
noncomputable def insD (a:D):List D→List D
 | []=>[a]
 | b::r=>if ltD b a then b::insD a r else a::b::r
noncomputable def sortD:List D→List D
 | []=>[]
 | a::r=>insD a (sortD r)
noncomputable def minD (d:D):List D→D
 | []=>d
 | e::r=>minD (if ltD e d then e else d) r
noncomputable def isTupN:D→Bool
 | .tup (_::_)=>true
 | _=>false
noncomputable def isTup0:D→Bool
 | .tup _=>true
 | _=>false
noncomputable def dNest:List D→Bool
 | []=>false
 | d::r=>isTup0 d&&(r.isEmpty||isTupN d)&&decide (dep d≤8)&&same d d&&r.all (same d)
noncomputable def ddS' (acc:List D) (d:D):List D:=if acc.any (fun e=>deq e d) then acc else acc++[d]
noncomputable def ddD (ds:List D):List D:=ds.foldl ddS' []
noncomputable def dMinN (ds:List D):R:=if dNest ds then(match ds with | d::r=> .ok (minD d r) | []=> .bad) else .bad
noncomputable def dMinL (ds:List D):R:=match dInts ds with
 | some ns=>(match ns with | n::r=> .ok (.int (minL n r)) | []=> .bad)
 | none=>dMinN ds
noncomputable def dMin1:Fn | [x]=>(match items x with | some ds=>dMinL ds | none=> .bad) | _=> .bad
noncomputable def eB (ds:List D):R:=if dNest ds&&decide (ds.length<64) then .ow (sortD ds) else .bad
noncomputable def gF (ds:List D):R:=match dInts ds with
 | some ns=>if ns.length<64 then .ow ((sortI ns).map D.int) else .bad
 | none=>eB ds
noncomputable def dSorted:Fn | [x]=>(match items x with | some ds=>gF ds | none=> .bad) | _=> .bad
noncomputable def ss16 (ns:List Int):List Int:=((List.range 17).filter fun(k:Nat)=>ns.contains (k:Int)).map fun(k:Nat)=>(k:Int)
noncomputable def in16 (ns:List Int):Bool:=ns.all fun n=>decide (0≤n∧n<17)
noncomputable def dSSN (ds:List D):R:=if dNest ds&&decide ((ddD ds).length<64) then .ow (sortD (ddD ds)) else .bad
noncomputable def dSSL (ds:List D):R:=match dInts ds with | some ns=>if in16 ns then .ow ((ss16 ns).map D.int) else .bad | none=>dSSN ds
noncomputable def dSS:Fn | [x]=>(match x with | .lst ds=>dSSL ds | _=> .bad) | _=> .bad
noncomputable def dLSL (ds:List D):R:=match dInts ds with | some ns=>if in16 ns then .ok (.int ((ss16 ns).length:Nat)) else .bad | none=> .bad
noncomputable def dLS:Fn | [x]=>(match x with | .lst ds=>dLSL ds | _=> .bad) | _=> .bad
noncomputable def maxD (i:Int):List Int→Int
 | []=>i
 | n::ns=>maxL n ns
noncomputable def dMaxD (i:Int):Fn | [x]=>(match(items x).bind dInts with | some ns=> .ok (.int (maxD i ns)) | none=> .bad) | _=> .bad
noncomputable def dCount:Fn | [.lst ys,x]=>if inOk x ys then .ok (.int ((ys.countP fun y=>deq y x):Nat)) else .bad | _=> .bad
noncomputable def dIndex:Fn | [.lst ys,x]=>if inOk x ys then(match ys.findIdx? fun y=>deq y x with | some k=> .ok (.int (k:Nat)) | none=> .bad) else .bad | _=> .bad
noncomputable def dRev (x:D):R:=match x with | .lst xs=> .ow xs.reverse | .tup xs=> .ok (.tup xs.reverse) | _=> .bad
noncomputable def dBits:Fn | [x]=>(match x with | .int i=> .ok (.int (Builtin.Int.intBits i)) | _=> .bad) | _=> .bad
noncomputable def rRev (a:F):F:=fun ρ=>(a ρ).bind dRev
noncomputable def stepL {α:Type} (xs:List α) (lo:Nat):List α:=(List.range ((xs.length - lo+1) / 2)).filterMap fun k=>xs[lo+2 * k]?
noncomputable def dStep (x y:D):R:=match x with | .tup xs=>(match y with | .int i=>if 0≤i then .ok (.tup (stepL xs i.toNat)) else .bad | _=> .bad) | _=> .bad
noncomputable def rStep (a b:F):F:=fun ρ=>(a ρ).bind fun x=>(b ρ).bind fun y=>dStep x y
noncomputable def rTru (a:F):F:=fun ρ=>(a ρ).bind fun x=>match x with | .bl b=> .ok (.bl b) | .lst xs=> .ok (.bl (!xs.isEmpty)) | _=> .bad
noncomputable def rIdx (a b:F):F:=fun ρ=>(a ρ).bind fun x=>match x with | .tup ds=>(b ρ).bind fun y=>dIndex [.lst ds,y] | _=> .bad
noncomputable def rCnt (a b:F):F:=fun ρ=>(a ρ).bind fun x=>match items x with | some ds=>(b ρ).bind fun y=>dCount [.lst ds,y] | none=> .bad
noncomputable def orP (p q:D→Option Bool):D→Option Bool:=fun d=>match p d,q d with | some a,some b=>some (a||b) | _,_=>none
mutual
noncomputable def hkD:D→Bool
 | .non=>true
 | .int _=>true
 | .tup xs=>hkDs xs
 | _=>false
noncomputable def hkDs:List D→Bool
 | []=>true
 | x::xs=>hkD x&&hkDs xs
end
noncomputable def keyOk (k:D):Bool:=isTup0 k&&hkD k&&decide (dep k≤8)
noncomputable def hasK (kvs:List (D×D)) (k:D):Bool:=kvs.any fun p=>deq p.1 k
noncomputable def putK (kvs:List (D×D)) (k d:D):List (D×D):=if hasK kvs k then kvs.map (fun p=>if deq p.1 k then(p.1,d) else p) else kvs++[(k,d)]
noncomputable def inK (op:CmpOp) (b:Bool):R:=match op with
 | .In=> .ok (.bl b)
 | .NotIn=> .ok (.bl !b)
 | _=> .bad
noncomputable def rInS (op:CmpOp) (a:F) (i:Nat):F:=fun ρ=>(a ρ).bind fun x=>match ρ[i]? with
 | some (.dc kvs)=>if keyOk x then inK op (hasK kvs x) else .bad
 | some (.sd kvs)=>if keyOk x then inK op (hasK kvs x) else .bad
 | some (.sh y)=>dCmp op x y
 | some (.ow ys)=>dCmp op x (.lst ys)
 | _=> .bad
noncomputable def iLook (i:Nat):F:=fun ρ=>match ρ[i]? with
 | some (.dc kvs)=> .ok (.lst (kvs.map (·.1)))
 | some (.sd kvs)=> .ok (.lst (kvs.map (·.1)))
 | _=>rLook i ρ
noncomputable def getK (kvs:List (D×D)) (k:D):R:=if keyOk k then(match kvs.find? fun p=>deq p.1 k with | some p=> .ok p.2 | none=> .bad) else .bad
noncomputable def rGet (i:Nat) (g:F):F:=fun ρ=>match ρ[i]? with
 | some (.dc kvs)=>(g ρ).bind (getK kvs)
 | some (.sd kvs)=>(g ρ).bind (getK kvs)
 | _=> .bad
noncomputable def iSd (i:Nat):F:=fun ρ=>match ρ[i]? with
 | some (.sd kvs)=> .ok (.lst (kvs.map (·.1)))
 | _=>rVar i ρ
noncomputable def put (ρ:Rho) (i:Nat) (s:Slot):Rho:=ρ.set i s
noncomputable def frz1 (i:Nat) (ρ:Rho):Rho:=match ρ[i]? with | some (.ow xs)=>ρ.set i (.sh (.lst xs)) | some (.dc kvs)=>ρ.set i (.sd kvs) | _=>ρ
noncomputable def frz (is:List Nat) (ρ:Rho):Rho:=is.foldl (fun ρ i=>frz1 i ρ) ρ
noncomputable def sFrz (is:List Nat) (s:FS):FS:=fun ρ=>s (frz is ρ)
noncomputable def outR (ρ:Rho) (r:R) (k:D→Out):Out:=match r with
 | .ok d=>k d
 | .ow xs=>k (.lst xs)
 | .ex c=> .ex c ρ
 | .bad=> .rt .bad
noncomputable def sSet (i:Nat) (e:F):FS:=fun ρ=>outR ρ (e ρ) fun d=> .nx (ρ.set i (.sh d))
noncomputable def sOwn (i:Nat) (e:F):FS:=fun ρ=>match e ρ with
 | .ok d=> .nx (ρ.set i (.sh d))
 | .ow xs=> .nx (ρ.set i (.ow xs))
 | .ex c=> .ex c ρ
 | .bad=> .rt .bad
noncomputable def setN:List Nat→List D→Rho→Rho
 | i::is,d::ds,ρ=>setN is ds (ρ.set i (.sh d))
 | _,_,ρ=>ρ
noncomputable def sSetN (is:List Nat) (e:F):FS:=fun ρ=>outR ρ (e ρ) fun d=>match d with
 | .tup ds=>if ds.length=is.length then .nx (setN is ds ρ) else .rt .bad
 | .lst ds=>if ds.length=is.length then .nx (setN is ds ρ) else .rt .bad
 | _=> .rt .bad
noncomputable def sAug (i:Nat) (op:Operator) (e:F):FS:=fun ρ=>match ρ[i]? with
 | some (.sh (.int a))=>outR ρ (e ρ) fun d=>(match d,op with
  | .int b, .Add=> .nx (ρ.set i (.sh (.int (a+b))))
  | .int b, .Sub=> .nx (ρ.set i (.sh (.int (a - b))))
  | _,_=> .rt .bad)
 | _=> .rt .bad
noncomputable def sDrop (e:F):FS:=fun ρ=>outR ρ (e ρ) fun _=> .nx ρ
noncomputable def sRet (e:F):FS:=fun ρ=>match e ρ with
 | .ok d=> .rt (.ok d)
 | .ow xs=> .rt (.ow xs)
 | .ex c=> .ex c ρ
 | .bad=> .rt .bad
noncomputable def sRetN:FS:=fun _=> .rt (.ok .non)
noncomputable def sPass:FS:=fun ρ=> .nx ρ
noncomputable def sBrk:FS:=fun ρ=> .bk ρ
noncomputable def sCont:FS:=fun ρ=> .ct ρ
noncomputable def sSeq (a b:FS):FS:=fun ρ=>match a ρ with | .nx ρ'=>b ρ' | o=>o
noncomputable def sIf (c:F) (a b:FS):FS:=fun ρ=>match c ρ with
 | .ok (.bl true)=>a ρ
 | .ok (.bl false)=>b ρ
 | .ex c=> .ex c ρ
 | _=> .rt .bad
noncomputable def sRaise (c:Nat):FS:=fun ρ=> .ex c ρ
noncomputable def sApp (i:Nat) (e:F):FS:=fun ρ=>match ρ[i]? with
 | some (.ow xs)=>outR ρ (e ρ) fun d=>if xs.length<LIM then .nx (ρ.set i (.ow (xs++[d]))) else .rt .bad
 | _=> .rt .bad
noncomputable def sExt (i:Nat) (e:F):FS:=fun ρ=>match ρ[i]? with
 | some (.ow xs)=>outR ρ (e ρ) fun d=>(match d with
  | .lst ys=>if xs.length+ys.length≤LIM then .nx (ρ.set i (.ow (xs++ys))) else .rt .bad
  | _=> .rt .bad)
 | _=> .rt .bad
noncomputable def sPut (i:Nat) (k e:F):FS:=fun ρ=>outR ρ (e ρ) fun d=>match ρ[i]? with
 | some (.ow xs)=>outR ρ (k ρ) fun y=>(match y with
  | .int j=>(match ixD xs.length j with | some m=> .nx (ρ.set i (.ow (xs.set m d))) | none=> .rt .bad)
  | _=> .rt .bad)
 | some (.dc kvs)=>outR ρ (k ρ) fun y=>if keyOk y&&decide (kvs.length<LIM) then .nx (ρ.set i (.dc (putK kvs y d))) else .rt .bad
 | _=> .rt .bad
noncomputable def sDNew (i:Nat):FS:=fun ρ=> .nx (ρ.set i (.dc []))
noncomputable def sParD (i j:Nat) (e:F):FS:=fun ρ=>outR ρ (e ρ) fun d=> .nx ((ρ.set i (.sh d)).set j (.dc []))
noncomputable def sRem (i:Nat) (e:F):FS:=fun ρ=>match ρ[i]? with
 | some (.ow xs)=>outR ρ (e ρ) fun d=>(match d,dInts xs with
  | .int j,some ns=>if ns.contains j then .nx (ρ.set i (.ow ((ns.erase j).map D.int))) else .rt .bad
  | _,_=> .rt .bad)
 | _=> .rt .bad
noncomputable def two1:List D→Option (D×D)
 | [a,b]=>some (a,b)
 | _=>none
noncomputable def two2:D→Option (D×D)
 | .tup ds=>two1 ds
 | _=>none
noncomputable def sPut2 (i:Nat) (k l e:F):FS:=fun ρ=>outR ρ (e ρ) fun d=>(match two2 d with
 | some (d1,d2)=>(match ρ[i]? with
  | some (.ow xs)=>outR ρ (k ρ) fun y=>(match y with
   | .int j=>(match ixD xs.length j with
    | some m=>outR (ρ.set i (.ow (xs.set m d1))) (l (ρ.set i (.ow (xs.set m d1)))) fun z=>(match z with
     | .int j2=>(match ixD (xs.set m d1).length j2 with
      | some m2=> .nx ((ρ.set i (.ow (xs.set m d1))).set i (.ow ((xs.set m d1).set m2 d2)))
      | none=> .rt .bad)
     | _=> .rt .bad)
    | none=> .rt .bad)
   | _=> .rt .bad)
  | _=> .rt .bad)
 | none=> .rt .bad)
noncomputable def sAugS (i:Nat) (k e:F):FS:=fun ρ=>match ρ[i]? with
 | some (.ow xs)=>outR ρ (k ρ) fun y=>(match y with
  | .int j=>(match ixD xs.length j with
   | some m=>(match xs[m]? with
    | some (.int a)=>outR ρ (e ρ) fun d=>(match d with
     | .int b=> .nx (ρ.set i (.ow (xs.set m (.int (a+b)))))
     | _=> .rt .bad)
    | _=> .rt .bad)
   | none=> .rt .bad)
  | _=> .rt .bad)
 | _=> .rt .bad
noncomputable def tgtS (is:List Nat) (one:Bool) (d:D) (ρ:Rho):Option Rho:=match one,is with
 | true,[i]=>some (ρ.set i (.sh d))
 | false,is=>(match d with
  | .tup ds=>if ds.length=is.length then some (setN is ds ρ) else none
  | _=>none)
 | _,_=>none
noncomputable def forGo (t:D→Rho→Option Rho) (b:FS):List D→Rho→Out
 | [],ρ=> .nx ρ
 | d::r,ρ=>match t d ρ with
  | none=> .rt .bad
  | some ρ1=>match b ρ1 with
   | .nx ρ2=>forGo t b r ρ2
   | .ct ρ2=>forGo t b r ρ2
   | .bk ρ2=> .nx ρ2
   | .rt r=> .rt r
   | .ex c ρ2=> .ex c ρ2
noncomputable def sFor (is:List Nat) (one:Bool) (it:F) (b:FS):FS:=fun ρ=>outR ρ (it ρ) fun x=>match items x with
 | some ds=>forGo (tgtS is one) b ds ρ
 | none=> .rt .bad
noncomputable def whileGo (c:F) (b:FS):Nat→FS
 | 0=>fun _=> .rt .bad
 | n+1=>fun ρ=>match c ρ with
  | .ok (.bl true)=>(match b ρ with
   | .nx ρ'=>whileGo c b n ρ'
   | .ct ρ'=>whileGo c b n ρ'
   | .bk ρ'=> .nx ρ'
   | .rt r=> .rt r
   | .ex k ρ'=> .ex k ρ')
  | .ok (.bl false)=> .nx ρ
  | .ex k=> .ex k ρ
  | _=> .rt .bad
noncomputable def sWhile (c:F) (b:FS):FS:=whileGo c b 1000
noncomputable def sBad:FS:=fun _=> .rt .bad
noncomputable def sTry (i j:Nat) (hit:Nat→Bool) (b:FS):FS:=fun ρ=>match b ρ with
 | .ex c ρ'=>if hit c then .nx ((ρ'.set i .no).set j (.sh (.exc c))) else .ex c ρ'
 | o=>o
noncomputable def fnOf (n:Nat) (b:FS):Fn:=fun ds=>match b (ds.map Slot.sh++List.replicate (n - ds.length) .no) with
 | .rt (.ok d)=> .ok d
 | .rt (.ow xs)=> .ow xs
 | .rt _=> .bad
 | .nx _=> .ok .non
 | .ex c _=> .ex c
 | _=> .bad
inductive Py where
 | len | range | enum | zip | isin | int | bool | str | tuple | list | sum | all | any | sorted | min | max | abs | set
 deriving DecidableEq
inductive Gl where
 | fn (k n:Nat) (f:Fn) | exc (c:Nat) | verr | val (d:D) | py (p:Py)
noncomputable def hit (c e:Nat):Bool:=c==e||c==0||c==100
structure Ctx where
 tab:List (Str×Gl)
 fns:List (Nat×Fn)
 sc:Scope
 N:List Str
 bs:List Str
noncomputable def idx (x:Str):List Str→Option Nat
 | []=>none
 | y::r=>if x=y then some 0 else(idx x r).map (· +1)
noncomputable def loc (C:Ctx) (x:Str):Option Nat:=match C.sc.names.lookup x with
 | some .local=>idx x C.N
 | some .cell=>idx x C.N
 | some .free=>idx x C.N
 | _=>none
noncomputable def capLoc (C:Ctx) (x:Str):Option Nat:=match C.sc.names.lookup x with
 | some .cell=>idx x C.N
 | some .free=>idx x C.N
 | _=>none
noncomputable def glo (C:Ctx) (x:Str):Option Gl:=match C.sc.names.lookup x with
 | some .globalImplicit=>C.tab.lookup x
 | _=>none
noncomputable def isP:Gl→Option (D→Option Bool)
 | .py .int=>some fun d=>match d with | .int _=>some true | .bl _=>some true | .exc _=>none | .fn _=>none | _=>some false
 | .py .bool=>some fun d=>match d with | .bl _=>some true | .exc _=>none | .fn _=>none | _=>some false
 | .py .tuple=>some fun d=>match d with | .tup _=>some true | .exc _=>none | .fn _=>none | _=>some false
 | .py .list=>some fun d=>match d with | .lst _=>some true | .exc _=>none | .fn _=>none | _=>some false
 | .py .str=>some fun d=>match d with | .str _=>some true | .exc _=>none | .fn _=>none | _=>some false
 | .exc c=>some fun d=>match d with | .exc e=>some (hit c e) | _=>none
 | .verr=>some fun d=>match d with | .exc e=>some (hit 100 e) | _=>none
 | _=>none
noncomputable def kD:Const→Option D
 | .int i=>some (.int i)
 | .bool b=>some (.bl b)
 | .none=>some .non
 | .str x=>some (.str x)
 | _=>none
noncomputable def mapO {α β:Type} (f:α→Option β):List α→Option (List β)
 | []=>some []
 | x::r=>match f x with
  | none=>none
  | some y=>(mapO f r).map (y:: ·)
noncomputable def tgNames:Expr→Option (List Str×Nat)
 | .Name x _=>some ([x],0)
 | .Tuple es _ _=>(mapO (fun(e:Expr)=>match e with | .Name x _=>some x | _=>none) es).bind fun xs=>if 2≤xs.length then some (xs,xs.length) else none
 | _=>none
noncomputable def frees (sc:Scope):List Str:=(sc.names.filter fun p=>p.2== .free).map (·.1)
noncomputable def cels (sc:Scope):List Str:=(sc.names.filter fun p=>p.2== .cell).map (·.1)
noncomputable def compOk (sc:Scope) (xs:List Str):Bool:=
 sc.kind== .function&&((cels sc).isEmpty||(decide (cels sc=xs)&&decide (xs.length=1)))&&xs.all (fun x=>sc.names.lookup x==some (if(cels sc).isEmpty then .local else .cell))&&
  sc.names.all (fun p=>p.2 != .local||sc.names.lookup p.1==some .local)&&decide (xs++frees sc).Nodup&&(xs++frees sc).all (fun x=>x != "__debug__"&&x != "__classdict__")&&(frees sc).all (fun x=>sc.names.lookup x==some .free)
noncomputable def recvOk:Expr→Bool
 | .Name _ _=>true
 | .Subscript _ _ _=>true
 | .List _ _=>true
 | _=>false
noncomputable def one:List Expr→Option Expr
 | [a]=>some a
 | _=>none
noncomputable def two:List Expr→Option (Expr×Expr)
 | [a,b]=>some (a,b)
 | _=>none
noncomputable def vName:Expr→Option (Str×Pos)
 | .Name x p=>some (x,p)
 | _=>none
noncomputable def vTup:Expr→Option (List Expr×Nat×Pos)
 | .Tuple es k p=>some (es,k,p)
 | _=>none
noncomputable def vSlice:Expr→Option (Option Expr×Option Expr)
 | .Slice lo hi st _=>(match st with | none=>some (lo,hi) | some _=>none)
 | _=>none
noncomputable def isOne:Expr→Bool
 | .Constant c _ _=>(match c with | .int i=>i==1 | _=>false)
 | _=>false
noncomputable def isM1:Expr→Bool
 | .UnaryOp op e _=>(match op with | .USub=>isOne e | _=>false)
 | _=>false
noncomputable def isNmK:Expr→Bool
 | .Name _ _=>true
 | _=>false
noncomputable def isSubK:Expr→Bool
 | .Subscript _ _ _=>true
 | _=>false
noncomputable def isNoneK:Expr→Bool
 | .Constant c _ _=>(match c with | .none=>true | _=>false)
 | _=>false
noncomputable def isTwo:Expr→Bool
 | .Constant c _ _=>(match c with | .int i=>i==2 | _=>false)
 | _=>false
noncomputable def vStep:Expr→Option Expr
 | .Slice lo hi st _=>if hi.isNone&&(match st with | none=>false | some e=>isTwo e) then lo else none
 | _=>none
noncomputable def vRev:Expr→Bool
 | .Slice lo hi st _=>lo.isNone&&hi.isNone&&(match st with | none=>false | some e=>isM1 e)
 | _=>false
noncomputable def vTup2 (e:Expr):Option (Str×Str):=(vTup e).bind fun(es,_)=>(two es).bind fun(u,v)=>(vName u).bind fun(x,_)=>(vName v).map fun(y,_)=>(x,y)
noncomputable def isStr:Expr→Bool
 | .Constant c _ _=>(match c with | .str _=>true | _=>false)
 | _=>false
noncomputable def rngOf (dE:Expr→Option F) (C:Ctx) (a:Expr):Option F:=match a with
 | .Call f as kws _=>if kws.isEmpty then(vName f).bind fun(x,_)=>(one as).bind fun b=>(match loc C x,glo C x with
  | none,some (.py .range)=>dE b
  | _,_=>none) else none
 | _=>none
noncomputable def vDflt (ks:List Keyword):Option Int:=match ks with
 | [⟨some x,v,_⟩]=>if x="default" then(match v with | .Constant c _ _=>(match c with | .int i=>some i | _=>none) | _=>none) else none
 | _=>none
noncomputable def denKw (dL:Expr→Option F) (C:Ctx) (f:Expr) (as:List Expr) (ks:List Keyword):Option F:=(vName f).bind fun(x,_)=>(one as).bind fun a=>(vDflt ks).bind fun i=>(match loc C x,glo C x with
 | none,some (.py .max)=>(dL a).map fun g=>rCall (dMaxD i) [g]
 | _,_=>none)
noncomputable def denPy (dE dL:Expr→Option F) (C:Ctx) (p:Py) (as:List Expr):Option F:=match p with
 | .len=>(one as).bind fun a=>(dL a).map fun f=>rCall dLen [f]
 | .int=>(one as).bind fun a=>(dL a).map fun f=>rCall dInt [f]
 | .tuple=>(one as).bind fun a=>(match dL a with
  | some f=>some (rCall dTuple [f])
  | none=>(rngOf dE C a).map fun f=>rCall dTuple [iRange f])
 | .list=>(one as).bind fun a=>(match dL a with
  | some f=>some (rCall dList [f])
  | none=>(rngOf dE C a).map fun f=>rCall dList [iRange f])
 | .sum=>(one as).bind fun a=>(dL a).map fun f=>rCall dSum [f]
 | .all=>(one as).bind fun a=>(dL a).map fun f=>rCall dAll [f]
 | .any=>(one as).bind fun a=>(dL a).map fun f=>rCall dAny [f]
 | .abs=>(one as).bind fun a=>(dL a).map fun f=>rCall dAbs [f]
 | .sorted=>(one as).bind fun a=>(dL a).map fun f=>rCall dSorted [f]
 | .min=>(match as with
  | [a]=>(dL a).map fun f=>rCall dMin1 [f]
  | as=>(two as).bind fun(a,b)=>(dE a).bind fun f=>(dE b).map fun h=>rCall dMin [f,h])
 | .max=>(match as with
  | [a]=>(dL a).map fun f=>rCall dMax1 [f]
  | as=>(two as).bind fun(a,b)=>(dE a).bind fun f=>(dE b).map fun h=>rCall dMax [f,h])
 | .isin=>(two as).bind fun(a,b)=>(vName b).bind fun(t,_)=>(dE a).bind fun f=>(glo C t).bind fun g=>(isP g).map fun P=>rIs P f
 | _=>none
noncomputable def denIt (dE:Expr→Option F) (C:Ctx) (tt:Bool) (x:Str) (as:List Expr):Option F:=match glo C x,as with
 | some (.py .range),[a]=>(dE a).map iRange
 | some (.py .zip),[a,b]=>if tt then(dE a).bind fun f=>(dE b).map fun g=>iZip f g else none
 | some (.py .enum),[a]=>if tt then(dE a).map iEnum else none
 | _,_=>none
noncomputable def bsN (C:Ctx) (e:Expr):Bool:=match e with | .Name x _=>C.bs.contains x | _=>false
noncomputable def dcName (x:Str):Str:=x++"{}"
noncomputable def dnN (C:Ctx) (e:Expr):Option Nat:=(vName e).bind fun(x,_)=>if C.bs.contains (dcName x) then loc C x else none
noncomputable def isIn:CmpOp→Bool
 | .In=>true
 | .NotIn=>true
 | _=>false
noncomputable def inN (C:Ctx) (op:CmpOp) (e:Expr):Option Nat:=if isIn op&&bsN C e then(vName e).bind fun(x,_)=>loc C x else none
mutual
noncomputable def denE:Nat→Ctx→Expr→Option F
 | 0,_,_=>none
 | n+1,C,e=>match e with
  | .Name x _=>(match loc C x with
   | some i=>some (rVar i)
   | none=>match glo C x with
    | some (.val d)=>some (rK d)
    | some (.fn k _ _)=>some (rK (.fn k))
    | _=>none)
  | .Constant c _ _=>(kD c).map rK
  | .BinOp a op b _=>(denE n C a).bind fun f=>(denE n C b).map fun g=>rBin op f g
  | .UnaryOp op a _=>(denE n C a).bind fun f=>(match op with | .Not=>some (rNot f) | .USub=>some (rNeg f) | _=>none)
  | .BoolOp op es p=>(match es with
   | [a,b]=>(denE n C a).bind fun f=>(denE n C b).map fun g=>(match op with | .And=>rAnd f g | .Or=>rOr f g)
   | a::b::c::r=>(denE n C a).bind fun f=>(denE n C (.BoolOp op (b::c::r) p)).map fun g=>(match op with | .And=>rAnd f g | .Or=>rOr f g)
   | _=>none)
  | .Compare a ops cs _=>(match ops with
   | [op]=>(one cs).bind fun b=>(if bsN C a then denL n C a else denE n C a).bind fun f=>(match inN C op b with
    | some i=>some (rInS op f i)
    | none=>(if bsN C b then denL n C b else denE n C b).map fun g=>rCmp op f g)
   | [op,op']=>(two cs).bind fun(b,c)=>(denE n C a).bind fun f=>(denE n C b).bind fun g=>(denE n C c).map fun h=>rChain op op' f g h
   | _=>none)
  | .IfExp c a b _=>(denE n C c).bind fun h=>(denE n C a).bind fun f=>(denE n C b).map fun g=>rIf h f g
  | .Tuple es _ _=>if es.length≤1000 then(mapO (denE n C) es).map rTup else none
  | .List es _=>if es.length≤1000 then(mapO (denE n C) es).map rLst else none
  | .Subscript a b _=>(match dnN C a with
   | some i=>(denE n C b).map fun g=>rGet i g
   | none=>(denL n C a).bind fun f=>(match vSlice b with
   | some (lo,hi)=>(match lo with
    | none=>some none
    | some l=>(denE n C l).map some).bind fun l=>(match hi with
    | none=>some none
    | some h=>(denE n C h).map some).map fun h=>rCut f l h
   | none=>(denE n C b).map fun g=>rIx f g))
  | .ListComp elt gens sc _=>(match gens with
   | [⟨tg,it,ifs,as⟩]=>if as=0 then(tgNames tg).bind fun(xs,k)=>(denI n C (k != 0) it).bind fun fi=>if compOk sc xs then
     (mapO (fun x=>capLoc C x) (frees sc)).bind fun cs=>(match ifs with
     | []=>some none
     | [c]=>(denE n { C with sc:=sc,N:=xs++frees sc } c).map some
     | _=>none).bind fun c=>(denE n { C with sc:=sc,N:=xs++frees sc } elt).map fun e=>rComp k cs fi c e
    else none else none
   | _=>none)
  | .Call f as kws cp=>if kws.isEmpty then(match f with
   | .Name x _=>(match loc C x with
    | some i=>if as.isEmpty then none else(mapO (denE n C) as).map fun fs=>rCallV C.fns (rVar i) fs
    | none=>(match glo C x with
     | some (.fn _ k f)=>if as.isEmpty then none else(mapO (denE n C) as).bind fun fs=>if fs.length=k then some (rCall f fs) else none
     | some (.py p)=>denPy (denE n C) (denL n C) C p as
     | _=>none))
   | .Subscript a b sp=>if as.isEmpty then none else(denE n C (.Subscript a b sp)).bind fun g=>(mapO (denE n C) as).map fun fs=>rCallV C.fns g fs
   | .Attribute o m ap=>if as.isEmpty then(if m="bit_length"∧recvOk o=true∧(ap.endLine==cp.line)=true then(denE n C o).map fun f=>rCall dBits [f] else none) else(one as).bind fun a=>if recvOk o&&ap.endLine==cp.line then(denL n C o).bind fun f=>(denE n C a).bind fun g=>
     if m="count" then some (if isNoneK a||isSubK o then rCnt f g else rMeth dCount f g) else if m="index" then some (if isSubK o then rIdx f g else rMeth dIndex f g) else none else none
   | _=>none) else denKw (denL n C) C f as kws
  | _=>none
noncomputable def denL:Nat→Ctx→Expr→Option F
 | 0,_,_=>none
 | n+1,C,e=>match e with
  | .Name x p=>(match loc C x with
   | some i=>some (rLook i)
   | none=>denE n C (.Name x p))
  | e=>denE n C e
noncomputable def denI:Nat→Ctx→Bool→Expr→Option F
 | 0,_,_,_=>none
 | n+1,C,tt,e=>match e with
  | .Call f as kws q=>(match f with
   | .Name x p=>(match loc C x,glo C x,kws with
    | none,some (.py .range),[]=>denIt (denE n C) C tt x as
    | none,some (.py .zip),[]=>denIt (denE n C) C tt x as
    | none,some (.py .enum),[]=>denIt (denE n C) C tt x as
    | _,_,_=>denE n C (.Call (.Name x p) as kws q))
   | f=>denE n C (.Call f as kws q))
  | e=>(match dnN C e with | some i=>some (iLook i) | none=>denL n C e)
end
noncomputable def gv:Nat→Expr→List Str
 | 0,_=>[]
 | n+1,e=>match e with
  | .Name x _=>[x]
  | .BinOp a _ b _=>gv n a++gv n b
  | .UnaryOp _ a _=>gv n a
  | .BoolOp _ as _=>as.flatMap (gv n)
  | .Compare a [_] [b] _=>(if isNmK a then [] else gv n a)++(if isNmK b then [] else gv n b)
  | .Compare a _ bs _=>gv n a++bs.flatMap (gv n)
  | .IfExp a b c _=>gv n a++gv n b++gv n c
  | .Tuple es _ _=>es.flatMap (gv n)
  | .List es _=>es.flatMap (gv n)
  | .Slice lo hi _ _=>(lo.map (gv n)).getD []++(hi.map (gv n)).getD []
  | .Subscript (.Name _ _) b _=>gv n b
  | .Subscript a b _=>gv n a++gv n b
  | .ListComp elt [⟨_, .Name _ _,ifs,_⟩] _ _=>ifs.flatMap (gv n)++gv n elt
  | .ListComp elt [⟨_,it,ifs,_⟩] _ _=>gv n it++ifs.flatMap (gv n)++gv n elt
  | .Call (.Name x _) as _ _=>if x="len"∨x="tuple"∨x="list"∨x="sum"∨x="sorted"∨x="all"∨x="any" then
    as.flatMap fun a=>match a with | .Name _ _=>[] | a=>gv n a else x::as.flatMap (gv n)
  | .Call (.Attribute (.Name _ _) _ _) as _ _=>as.flatMap (gv n)
  | .Call (.Attribute o _ _) as _ _=>gv n o++as.flatMap (gv n)
  | .Call f as _ _=>gv n f++as.flatMap (gv n)
  | _=>[]
noncomputable def frzOf (C:Ctx) (e:Expr):List Nat:=match C.bs with
 | []=>[]
 | _=>((gv 50 e).filter fun x=>C.bs.contains x).filterMap fun x=>loc C x
noncomputable def withFrz (is:List Nat) (s:FS):FS:=match is with
 | []=>s
 | is=>sFrz is s
noncomputable def blds:Nat→List Stmt→List Str
 | 0,_=>[]
 | n+1,ss=>ss.flatMap fun s=>match s with
  | .Assign [.Subscript (.Name x _) _ _] _ _=>[x]
  | .Assign [.Name x _] (.Dict [] [] _) _=>[dcName x]
  | .Assign [.Tuple [_, .Name x _] _ _] (.Tuple [_, .Dict [] [] _] _ _) _=>[dcName x]
  | .AugAssign (.Subscript (.Name x _) _ _) _ _ _=>[x]
  | .Assign [.Tuple [.Subscript (.Name x _) _ _,_] _ _] _ _=>[x]
  | .Expr (.Call (.Attribute (.Name x _) m _) _ _ _) _=>if m="append"∨m="extend"∨m="remove" then [x] else []
  | .If _ a b _=>blds n a++blds n b
  | .For _ _ b _ _=>blds n b
  | .While _ b _ _=>blds n b
  | _=>[]
noncomputable def callish:Expr→Bool
 | .Call _ _ _ _=>true
 | .Name _ _=>true
 | .Subscript _ _ _=>true
 | .ListComp _ _ _ _=>true
 | _=>false
noncomputable def parOk (C:Ctx) (x y:Str) (px py:Pos) (a b:Expr):Bool:=
 C.sc.names.lookup x==some .local&&C.sc.names.lookup y==some .local&&x != y&&px.line==py.line&& !([a,b].all (foldedForSure 8))&& !([a,b].all (constantsAlone 8))&& !C.bs.contains x&& !C.bs.contains y
noncomputable def parCell (C:Ctx) (x y:Str):Bool:=(C.sc.names.lookup x==some .cell||C.sc.names.lookup y==some .cell)&& !C.bs.contains x&& !C.bs.contains y
noncomputable def addB:Operator→Bool
 | .Add=>true
 | _=>false
noncomputable def addsub:Operator→Bool
 | .Add=>true
 | .Sub=>true
 | _=>false
noncomputable def isD0:Expr→Bool
 | .Dict ks vs _=>ks.isEmpty&&vs.isEmpty
 | _=>false
noncomputable def denF (C:Ctx) (tt:Bool) (it:Expr):Option F:=match it with
 | .Name x p=>(match dnN C (.Name x p) with | some i=>some (iSd i) | none=>denE 50 C (.Name x p))
 | it=>denI 50 C tt it
structure Par where
 x:Str
 px:Pos
 y:Str
 py:Pos
 a:Expr
 b:Expr
noncomputable def par2 (es:List Expr) (e:Expr):Option Par:=(two es).bind fun(u,v)=>(vName u).bind fun(x,px)=>(vName v).bind fun(y,py)=>(vTup e).bind fun(vs,_)=>(two vs).map fun(a,b)=>⟨x,px,y,py,a,b⟩
structure Par3 where
 x:Str
 px:Pos
 y:Str
 py:Pos
 z:Str
 pz:Pos
 a:Expr
 b:Expr
 c:Expr
noncomputable def three:List Expr→Option (Expr×Expr×Expr)
 | [a,b,c]=>some (a,b,c)
 | _=>none
noncomputable def par3 (es:List Expr) (e:Expr):Option Par3:=(three es).bind fun(u,v,w)=>(vName u).bind fun(x,px)=>(vName v).bind fun(y,py)=>(vName w).bind fun(z,pz)=>(vTup e).bind fun(vs,_)=>(three vs).map fun(a,b,c)=>⟨x,px,y,py,z,pz,a,b,c⟩
noncomputable def par3Ok (C:Ctx) (q:Par3):Bool:=
 C.sc.names.lookup q.x==some .local&&C.sc.names.lookup q.y==some .local&&C.sc.names.lookup q.z==some .local&&q.x != q.y&&q.x != q.z&&q.y != q.z&&q.px.line==q.py.line&&q.px.line==q.pz.line&& !([q.a,q.b,q.c].all (foldedForSure 8))&& !([q.a,q.b,q.c].all (constantsAlone 8))&& !C.bs.contains q.x&& !C.bs.contains q.y&& !C.bs.contains q.z
noncomputable def vSub:Expr→Option (Str×Expr)
 | .Subscript o k _=>(vName o).map fun(x,_)=>(x,k)
 | _=>none
noncomputable def sub2 (es:List Expr) (e:Expr):Option (Str×Expr×Expr):=(two es).bind fun(u,v)=>(vSub u).bind fun(x,k)=>(vSub v).bind fun(y,l)=>(vTup e).bind fun(vs,_)=>(two vs).bind fun _=>if x=y then some (x,k,l) else none
noncomputable def parD (es:List Expr) (e:Expr):Option (Str×Str×Expr):=(two es).bind fun(u,v)=>(vName u).bind fun(x,_)=>(vName v).bind fun(y,_)=>(vTup e).bind fun(vs,_)=>(two vs).bind fun(a,b)=>if isD0 b then some (x,y,a) else none
noncomputable def oneS:List Stmt→Option Stmt
 | [s]=>some s
 | _=>none
noncomputable def vAsg:Stmt→Option (Str×Str)
 | .Assign ts e _=>(one ts).bind fun t=>(vName t).bind fun(x,_)=>(vName e).map fun(y,_)=>(x,y)
 | _=>none
noncomputable def hdOf (C:Ctx) (hs:List ExceptHandler):Option (Nat×Nat):=match hs with
 | [.ExceptHandler ty nm b _]=>ty.bind fun te=>nm.bind fun e=>(vName te).bind fun(cx,_)=>(oneS b).bind fun s=>(vAsg s).bind fun(x,e')=>(match loc C cx,glo C cx with
  | none,some (.exc c)=>if c=0∧e=e' then(loc C e).bind fun i=>(loc C x).bind fun j=>if C.sc.names.lookup e==some .local&&i != j&&C.bs.isEmpty then some (i,j) else none else none
  | _,_=>none)
 | _=>none
mutual
noncomputable def denS:Nat→Bool→Ctx→Stmt→Option FS
 | 0,_,_,_=>none
 | n+1,t,C,s=>match s with
  | .Pass _=>some sPass
  | .Break _=>some sBrk
  | .Continue _=>some sCont
  | .Return v _=>(match v with
   | none=>some sRetN
   | some e=>(match vName e with
    | some (x,_)=>(match loc C x with
     | some i=>if C.bs.contains x then some (sRet (rGive i)) else some (sRet (rVar i))
     | none=>(denE 50 C e).map sRet)
    | none=>(denE 50 C e).map fun f=>withFrz (frzOf C e) (sRet f)))
  | .Assign ts e _=>(one ts).bind fun tg=>(match tg with
   | .Name x _=>(loc C x).bind fun i=>if isD0 e&&C.bs.contains x then some (sDNew i) else(denE 50 C e).map fun f=>withFrz (frzOf C e) (if C.bs.contains x then sOwn i f else sSet i f)
   | .Tuple es a b=>(if callish e then some () else none).bind fun _=>(tgNames (.Tuple es a b)).bind fun(xs,_)=>(mapO (fun x=>loc C x) xs).bind fun is=>if xs.all (fun x=> !C.bs.contains x) then
     (denE 50 C e).map fun f=>withFrz (frzOf C e) (sSetN is f) else none
   | .Subscript o k _=>(vName o).bind fun(x,_)=>(loc C x).bind fun i=>if C.bs.contains x then(denE 50 C e).bind fun f=>(denE 50 C k).map fun g=>withFrz (frzOf C e++frzOf C k) (sPut i g f) else none
   | _=>none)
  | .AugAssign tg op e _=>(match tg with | .Subscript o k _=>(vName o).bind fun(x,_)=>(loc C x).bind fun i=>if C.bs.contains x&&addB op then(denE 50 C e).bind fun f=>(denE 50 C k).map fun g=>withFrz (frzOf C e++frzOf C k) (sAugS i g f) else none | tg=>(vName tg).bind fun(x,_)=>(if addsub op then some () else none).bind fun _=>(loc C x).bind fun i=>(denE 50 C e).map fun f=>withFrz (frzOf C e) (sAug i op f))
  | .Expr e _=>(match e with
   | .Call f as kws cp=>if kws.isEmpty then(match f with
    | .Attribute o m ap=>(vName o).bind fun(x,_)=>(one as).bind fun e=>(loc C x).bind fun i=>if C.bs.contains x&&ap.endLine==cp.line then(denE 50 C e).bind fun f=>
      if m="append" then some (withFrz (frzOf C e) (sApp i f)) else if m="extend" then some (withFrz (frzOf C e) (sExt i f)) else if m="remove" then some (withFrz (frzOf C e) (sRem i f)) else none else none
    | .Name x p=>(denE 50 C (.Call (.Name x p) as [] cp)).map fun f=>withFrz (frzOf C (.Call (.Name x p) as [] cp)) (sDrop f)
    | _=>none) else none
   | _=>none)
  | .If c a b _=>(denE 50 C c).bind fun f=>(denSs n t C a).bind fun g=>(denSs n t C b).map fun h=>withFrz (frzOf C c) (sIf f g h)
  | .For tg it b els _=>if t|| !els.isEmpty then none else(tgNames tg).bind fun(xs,k)=>(denF C (k != 0) it).bind fun f=>(mapO (fun x=>loc C x) xs).bind fun is=>if xs.all (fun x=> !C.bs.contains x) then
    (denSs n t C b).map fun g=>withFrz (frzOf C it) (sFor is (k==0) f g) else none
  | .While c b els _=>if t|| !els.isEmpty then none else(denE 50 C c).bind fun f=>(denSs n t C b).map fun g=>withFrz (frzOf C c) (sWhile f g)
  | .Raise x c _=>if t||c.isSome then none else x.bind fun e=>(match e with
   | .Call f as kws _=>if kws.isEmpty then(vName f).bind fun(x,_)=>(one as).bind fun a=>if isStr a then(match loc C x,glo C x with
    | none,some (.exc c)=>some (sRaise c)
    | _,_=>none) else none else none
   | _=>none)
  | _=>none
noncomputable def denSs:Nat→Bool→Ctx→List Stmt→Option FS
 | 0,_,_,_=>none
 | n+1,t,C,ss=>match ss with
  | []=>some sPass
  | [a]=>some ((denS n t C a).getD sBad)
  | a::r=>(denSs n t C r).map fun g=>sSeq ((denS n t C a).getD sBad) g
end
noncomputable def parsOf (a:Arguments):Option (List Str):=if a.posonlyargs.isEmpty&&a.vararg.isNone&&a.kwonlyargs.isEmpty&&a.kwarg.isNone&&a.defaults.isEmpty then some (a.args.map (·.arg)) else none
noncomputable def namesOf (sc:Scope):List Str:=(sc.names.filter fun p=>p.2== .local||p.2== .cell).map (·.1)
noncomputable def scopeOk (N P:List Str) (sc:Scope):Bool:=
 sc.kind== .function&& !sc.isCoroutine&& !sc.isGenerator&&decide N.Nodup&&decide (N.take P.length=P)&&
  P.all (fun x=>sc.names.lookup x==some .local||sc.names.lookup x==some .cell)&&sc.names.all (fun p=>p.2 != .free)&&N.all (fun x=>x != "__debug__"&&x != "__classdict__")
noncomputable def denFn (tab:List (Str×Gl)) (fns:List (Nat×Fn)) (s:Stmt):Option (Nat×Fn):=match s with
 | .FunctionDef _ as b _ _ _ sc _ _ _=>(parsOf as).bind fun P=>if scopeOk (namesOf sc) P sc then
   (denSs 100 false ⟨tab,fns,sc,namesOf sc,blds 50 b⟩ b).map fun g=>(P.length,fnOf (namesOf sc).length g) else none
 | _=>none
noncomputable def isPD (g:Gl):D→Option Bool:=(isP g).getD fun _=>none
noncomputable def aAq:D→Option Bool:=isPD (.py .int)
noncomputable def wT:D→Option Bool:=isPD (.py .bool)
noncomputable def bI:D→Option Bool:=isPD (.py .tuple)
noncomputable def recF (m:Fn→Fn):Nat→Fn
 | 0=>fun _=> .bad
 | n+1=>m (recF m n)
mutual
noncomputable def toPy:D→PyData
 | .non=> .none
 | .bl b=> .bool b
 | .int i=> .int i
 | .str x=> .str x
 | .tup xs=> .tuple (toPys xs)
 | .lst xs=> .list (toPys xs)
 | .exc _=> .none
 | .fn _=> .none
noncomputable def toPys:List D→List PyData
 | []=>[]
 | x::xs=>toPy x::toPys xs
end
mutual
theorem bY: ∀ {d:D},plain d=true→(toPy d).canLay0=true
 | .non,_=>by simp [toPy,PyData.canLay0]
 | .bl _,_=>by simp [toPy,PyData.canLay0]
 | .int _,_=>by simp [toPy,PyData.canLay0]
 | .str x,h=>by
  unfold plain at h
  simp only [toPy,PyData.canLay0]
  exact h
 | .tup xs,h=>by
  simp only [toPy,PyData.canLay0]
  exact j7 (by simpa [plain] using h)
 | .lst xs,h=>by
  simp only [toPy,PyData.canLay0]
  exact j7 (by simpa [plain] using h)
 | .exc _,h=>by simp [plain] at h
 | .fn _,h=>by simp [plain] at h
theorem j7: ∀ {ds:List D},plains ds=true→PyData.canLayAll0 (toPys ds)=true
 | [],_=>by simp [toPys,PyData.canLayAll0]
 | d::ds,h=>by
  have h':plain d=true∧plains ds=true:=by simpa [plains] using h
  simp only [toPys,PyData.canLayAll0,bY h'.1,j7 h'.2,Bool.and_self]
end
mutual
theorem bZ: ∀ (d:D),(toPy d).depth=dep d
 | .non=>by simp [toPy,PyData.depth,dep]
 | .bl _=>by simp [toPy,PyData.depth,dep]
 | .int _=>by simp [toPy,PyData.depth,dep]
 | .str x=>by simp [toPy,PyData.depth,dep]
 | .tup xs=>by simp [toPy,PyData.depth,dep,j8 xs]
 | .lst xs=>by simp [toPy,PyData.depth,dep,j8 xs]
 | .exc _=>by simp [toPy,PyData.depth,dep]
 | .fn _=>by simp [toPy,PyData.depth,dep]
theorem j8: ∀ (ds:List D),PyData.depthAll (toPys ds)=deps ds
 | []=>by simp [toPys,PyData.depthAll,deps]
 | d::ds=>by simp [toPys,PyData.depthAll,deps,bZ d,j8 ds]
end
theorem vE (b:Bool):b2i b=if b then 1 else 0:=rfl
mutual
theorem b8: ∀ (x y:D),plain x=true→plain y=true→PyData.eqv (toPy x) (toPy y)=deq x y
 | .non,y,_,h=>by cases y<;>simp [plain] at h<;>simp [toPy,PyData.eqv,deq]
 | .bl a,y,_,h=>by cases y<;>simp [plain] at h<;>simp [toPy,PyData.eqv,deq,vE]
 | .int a,y,_,h=>by cases y<;>simp [plain] at h<;>simp [toPy,PyData.eqv,deq,vE]
 | .str a,y,_,h=>by cases y<;>simp [plain] at h<;>simp [toPy,PyData.eqv,deq]
 | .tup xs,y,g,h=>by
  cases y with
  | tup ys=>simpa [toPy,PyData.eqv,deq] using gG xs ys (by simpa [plain] using g) (by simpa [plain] using h)
  | _=>simp [plain] at h<;>simp [toPy,PyData.eqv,deq]
 | .lst xs,y,g,h=>by
  cases y with
  | lst ys=>simpa [toPy,PyData.eqv,deq] using gG xs ys (by simpa [plain] using g) (by simpa [plain] using h)
  | _=>simp [plain] at h<;>simp [toPy,PyData.eqv,deq]
 | .exc _,_,g,_=>by simp [plain] at g
 | .fn _,_,g,_=>by simp [plain] at g
theorem gG: ∀ (xs ys:List D),plains xs=true→plains ys=true→PyData.eqvAll (toPys xs) (toPys ys)=deqs xs ys
 | [],[],_,_=>by simp [toPys,PyData.eqvAll,deqs]
 | [],_::_,_,_=>by simp [toPys,PyData.eqvAll,deqs]
 | _::_,[],_,_=>by simp [toPys,PyData.eqvAll,deqs]
 | x::xs,y::ys,g,h=>by
  have g':plain x=true∧plains xs=true:=by simpa [plains] using g
  have h':plain y=true∧plains ys=true:=by simpa [plains] using h
  simp only [toPys,PyData.eqvAll,deqs,b8 x y g'.1 h'.1,gG xs ys g'.2 h'.2]
end
abbrev St:=L2.St
structure Ad where
 cls:Nat→Addr
 fnA:Nat→Addr
 nb:Nat
def ExcAt (h:Heap) (x C:Addr):Prop:= ∃ o vs,h.get? x=some o∧o.cls= .ref C∧o.data= .fields vs
noncomputable def excO (C a:Addr):HO:= .ext fun h=>ExcAt h a C
section
variable (K:PySem.W.Frag) (ad:Ad)
mutual
noncomputable def Rep (G:Hp):D→V→Prop
 | .non,v=>v= .non
 | .bl b,v=>v= .bl b
 | .int i,v=>v= .int i
 | .str x,v=>v= .str x
 | .tup ds,v=> ∃ a vs,v= .ref a∧SqT K G a vs∧Reps G ds vs
 | .lst ds,v=> ∃ a vs,v= .ref a∧SqL K G a vs∧Reps G ds vs
 | .exc c,v=> ∃ a,v= .ref a∧G a=some (excO (ad.cls c) a)
 | .fn k,v=>v= .ref (ad.fnA k)
noncomputable def Reps (G:Hp):List D→List V→Prop
 | [],vs=>vs=[]
 | d::ds,vs=> ∃ v r,vs=v::r∧Rep G d v∧Reps G ds r
end
end
section
variable {K:PySem.W.Frag} {ad:Ad} {G G' H H':Hp}
theorem _root_.L2.Same.seqT {K:PySem.W.Frag} {H H':Hp} {a:Addr} {xs:List V} (e:Same H H') (h:SqT K H a xs):SqT K H' a xs:=by
 rcases h with (h | ⟨o,h⟩) | h
 ·exact .inl (.inl (e _ _ h))
 ·exact .inl (.inr ⟨o,e _ _ h⟩)
 ·exact .inr h
mutual
theorem Rep.mono (e:Same G G'): ∀ {d:D} {v:V},Rep K ad G d v→Rep K ad G' d v
 | .non,_,h=>h
 | .bl _,_,h=>h
 | .int _,_,h=>h
 | .str _,_,h=>h
 | .tup ds,v,h=>by
  unfold Rep at h ⊢
  obtain⟨a,vs,h1,h2,h3⟩:=h
  exact⟨a,vs,h1,e.seqT h2,Reps.mono e h3⟩
 | .lst ds,v,h=>by
  unfold Rep at h ⊢
  obtain⟨a,vs,h1,h2,h3⟩:=h
  exact⟨a,vs,h1,e.seq h2,Reps.mono e h3⟩
 | .exc _,_,h=>by
  unfold Rep at h ⊢
  obtain⟨a,h1,h2⟩:=h
  exact⟨a,h1,e _ _ h2⟩
 | .fn _,_,h=>h
theorem Reps.mono (e:Same G G'): ∀ {ds:List D} {vs:List V},Reps K ad G ds vs→Reps K ad G' ds vs
 | [],_,h=>h
 | d::ds,vs,h=>by
  unfold Reps at h ⊢
  obtain⟨v,r,h1,h2,h3⟩:=h
  exact⟨v,r,h1,Rep.mono e h2,Reps.mono e h3⟩
end
theorem Reps.length: ∀ {ds:List D} {vs:List V},Reps K ad G ds vs→vs.length=ds.length
 | [],_,h=>by
  unfold Reps at h
  subst h
  rfl
 | d::ds,vs,h=>by
  unfold Reps at h
  obtain⟨v,r,rfl,_,h3⟩:=h
  simp [Reps.length h3]
theorem Reps.nil:Reps K ad G [] []:=by unfold Reps;rfl
theorem Reps.cons {d:D} {v:V} {ds:List D} {vs:List V} (h:Rep K ad G d v) (t:Reps K ad G ds vs):Reps K ad G (d::ds) (v::vs):=by
 unfold Reps
 exact⟨v,vs,rfl,h,t⟩
theorem Reps.get: ∀ {ds:List D} {vs:List V} {i:Nat} {d:D},Reps K ad G ds vs→ds[i]? =some d→ ∃ v,vs[i]? =some v∧Rep K ad G d v
 | [],_,_,_,_,e=>by simp at e
 | d::ds,vs,i,d',h,e=>by
  unfold Reps at h
  obtain⟨v,r,rfl,h2,h3⟩:=h
  cases i with
  | zero=>
   simp at e
   subst e
   exact⟨v,rfl,h2⟩
  | succ i=>
   obtain⟨w,a,b⟩:=Reps.get (i:=i) (d:=d') h3 (by simpa using e)
   exact⟨w,by simpa using a,b⟩
theorem Reps.append: ∀ {ds es:List D} {vs ws:List V},Reps K ad G ds vs→Reps K ad G es ws→Reps K ad G (ds++es) (vs++ws)
 | [],_,_,_,h,t=>by
  unfold Reps at h
  subst h
  exact t
 | d::ds,es,vs,ws,h,t=>by
  unfold Reps at h
  obtain⟨v,r,rfl,h2,h3⟩:=h
  exact Reps.cons h2 (Reps.append h3 t)
theorem Reps.drop: ∀ (n:Nat) {ds:List D} {vs:List V},Reps K ad G ds vs→Reps K ad G (ds.drop n) (vs.drop n)
 | 0,_,_,h=>h
 | n+1,[],_,h=>by
  unfold Reps at h
  subst h
  exact Reps.nil
 | n+1,d::ds,vs,h=>by
  unfold Reps at h
  obtain⟨v,r,rfl,h2,h3⟩:=h
  exact Reps.drop n h3
theorem Reps.take: ∀ (n:Nat) {ds:List D} {vs:List V},Reps K ad G ds vs→Reps K ad G (ds.take n) (vs.take n)
 | 0,_,_,_=>Reps.nil
 | n+1,[],_,h=>by
  unfold Reps at h
  subst h
  exact Reps.nil
 | n+1,d::ds,vs,h=>by
  unfold Reps at h
  obtain⟨v,r,rfl,h2,h3⟩:=h
  exact Reps.cons h2 (Reps.take n h3)
theorem Reps.set {d:D} {v:V} (q:Rep K ad G d v): ∀ (n:Nat) {ds:List D} {vs:List V},Reps K ad G ds vs→Reps K ad G (ds.set n d) (vs.set n v)
 | _,[],_,h=>by
  unfold Reps at h
  subst h
  exact Reps.nil
 | 0,_::ds,vs,h=>by
  unfold Reps at h
  obtain⟨w,r,rfl,h2,h3⟩:=h
  exact Reps.cons q h3
 | n+1,e::ds,vs,h=>by
  unfold Reps at h
  obtain⟨w,r,rfl,h2,h3⟩:=h
  exact Reps.cons h2 (Reps.set q n h3)
theorem Reps.rep {ds:List D} {vs:List V} (h:Reps K ad G ds vs): ∀ k:Nat,Reps K ad G (List.replicate k ds).flatten (List.replicate k vs).flatten
 | 0=>Reps.nil
 | k+1=>by
  simp only [List.replicate_succ,List.flatten_cons]
  exact Reps.append h (Reps.rep h k)
theorem Reps.map_int: ∀ {ns:List Int},Reps K ad G (ns.map D.int) (ns.map V.int)
 | []=>Reps.nil
 | _::_=>Reps.cons (by unfold Rep;rfl) Reps.map_int
structure Step (G H G' H':Hp):Prop where
 sg:Same G G'
 gh:Same G' H'
 sh:Same H H'
 nw: ∀ b,G b=none→G' b≠none→H b=none
theorem iU (e:Same H H') {b:Addr} (h:H' b=none):H b=none:=e.free h
theorem Step.refl (h:Same G H):Step G H G H:=⟨Same.refl _,h,Same.refl _,fun b h1 h2=>absurd h1 h2⟩
theorem Step.trans {G1 H1 G2 H2:Hp} (a:Step G H G1 H1) (b:Step G1 H1 G2 H2):Step G H G2 H2:=
 ⟨a.sg.trans b.sg,b.gh,a.sh.trans b.sh,fun x h1 h2=>by
  cases q:G1 x with
  | none=>exact a.sh.free (b.nw x q h2)
  | some o=>exact a.nw x h1 (by rw [q];exact fun z=>nomatch z)⟩
theorem Same.upd_new {p:Addr} {o:HO} (h:H p=none):Same H (upd H p o):=fun b u e=>by rw [aF (aY e h)];exact e
theorem Step.new {p:Addr} {o:HO} (h:Same G H) (n:H p=none):Step G H (upd G p o) (upd H p o):=by
 have gn:G p=none:=h.free n
 refine⟨Same.upd_new gn,fun b u e=> ?_,Same.upd_new n,fun b h1 h2=> ?_⟩
 ·by_cases q:b=p
  ·subst q
   rw [aH] at e ⊢
   exact e
  ·rw [aF q] at e ⊢
   exact h b u e
 ·by_cases q:b=p
  ·subst q
   exact n
  ·rw [aF q] at h2
   exact absurd h1 h2
theorem Step.own {p:Addr} {o:HO} (h:Same G H) (n:H p=none):Step G H G (upd H p o):=
 ⟨Same.refl _,h.trans (Same.upd_new n),Same.upd_new n,fun b h1 h2=>absurd h1 h2⟩
theorem Step.shareO {p:Addr} {o:HO} (s:Step G H G' H') (n:H p=none) (m:G' p=none) (e:H' p=some o):Step G H (upd G' p o) H':=by
 refine⟨s.sg.trans (Same.upd_new m),fun b u q=> ?_,s.sh,fun b h1 h2=> ?_⟩
 ·by_cases z:b=p
  ·subst z
   rw [aH] at q
   rw [e]
   exact q
  ·rw [aF z] at q
   exact s.gh b u q
 ·by_cases z:b=p
  ·subst z
   exact n
  ·rw [aF z] at h2
   exact s.nw b h1 h2
theorem Step.share {p:Addr} {vs:List V} (s:Step G H G' H') (n:H p=none) (m:G' p=none) (e:H' p=some (.lst vs)):Step G H (upd G' p (.lst vs)) H':=s.shareO n m e
mutual
noncomputable def hD:D→Int
 | .non=>0xFCA86420
 | .int i=>hashInt i
 | .tup xs=>reduceHash (Builtin.Tuple.tupleHashOf (hDs xs))
 | _=>0
noncomputable def hDs:List D→List Int
 | []=>[]
 | x::xs=>hD x::hDs xs
end
def DcAt (h:Heap) (a:Addr) (es:Nat×List (Int×Addr×V)):Prop:=(a==sysModules)=false∧es.2.length≤200000∧ ∃ o ar xs,h.get? a=some o∧o.ExactDict∧o.data= .dict ar es.1∧ar.toList=xs.map (fun x:Int×Addr×Value=>(⟨x.1, .ref x.2.1,x.2.2⟩:DictEntry))∧
 Paired (fun(p:Int×Addr×V) (q:Int×Addr×Value)=>p.1=q.1∧p.2.1=q.2.1∧RelV p.2.2 q.2.2) es.2 xs
noncomputable def dcO (a:Addr) (es:Nat×List (Int×Addr×V)):HO:= .ext fun h=>DcAt h a es
noncomputable def DL (K:PySem.W.Frag) (ad:Ad) (G:Hp):List (D×D)→List (Int×Addr×V)→Prop:=Paired fun p q=>q.1=hD p.1∧Rep K ad G p.1 (.ref q.2.1)∧Rep K ad G p.2 q.2.2
def DR (K:PySem.W.Frag) (ad:Ad) (G:Hp) (kvs:List (D×D)) (es:Nat×List (Int×Addr×V)):Prop:=DL K ad G kvs es.2
def KOk (kvs:List (D×D)):Prop:=(∀ p∈kvs,keyOk p.1=true)∧kvs.Pairwise fun p q=>deq p.1 q.1=false
theorem DR.mono {K:PySem.W.Frag} {ad:Ad} {G G':Hp} {kvs:List (D×D)} {es:Nat×List (Int×Addr×V)} (h:DR K ad G kvs es) (e:Same G G'):DR K ad G' kvs es:=Paired.mapP h fun _ _ z=>⟨z.1,z.2.1.mono e,z.2.2.mono e⟩
noncomputable def SLi (K:PySem.W.Frag) (ad:Ad) (G H:Hp):Slot→Option V→Prop
 | .no,_=>True
 | .sh d,ov=> ∃ v,ov=some v∧Rep K ad G d v
 | .ow xs,ov=> ∃ a vs,ov=some (.ref a)∧G a=none∧H a=some (.lst vs)∧Reps K ad G xs vs
 | .dc kvs,ov=> ∃ a es,ov=some (.ref a)∧G a=none∧H a=some (dcO a es)∧DR K ad G kvs es∧KOk kvs
 | .sd kvs,ov=> ∃ a es,ov=some (.ref a)∧G a=some (dcO a es)∧H a=some (dcO a es)∧DR K ad G kvs es∧KOk kvs
structure SL (K:PySem.W.Frag) (ad:Ad) (G H:Hp) (ρ:Rho) (σ:St):Prop where
 len:ρ.length=σ.length
 at_: ∀ (i:Nat) (s:Slot),ρ[i]? =some s→ ∃ ov,σ[i]? =some ov∧SLi K ad G H s ov
theorem SLi.step (st:Step G H G' H'): ∀ {s:Slot} {ov:Option V},SLi K ad G H s ov→SLi K ad G' H' s ov
 | .no,_,_=>trivial
 | .sh d,_,⟨v,h1,h2⟩=>⟨v,h1,h2.mono st.sg⟩
 | .ow xs,_,⟨a,vs,h1,h2,h3,h4⟩=>by
  refine⟨a,vs,h1, ?_,st.sh _ _ h3,h4.mono st.sg⟩
  cases q:G' a with
  | none=>rfl
  | some o=>
   have:=st.nw a h2 (by rw [q];exact fun z=>nomatch z)
   rw [h3] at this
   cases this
 | .dc kvs,_,⟨a,es,h1,h2,h3,h4,h5⟩=>by
  refine⟨a,es,h1, ?_,st.sh _ _ h3,h4.mono st.sg,h5⟩
  cases q:G' a with
  | none=>rfl
  | some o=>
   have:=st.nw a h2 (by rw [q];exact fun z=>nomatch z)
   rw [h3] at this
   cases this
 | .sd kvs,_,⟨a,es,h1,h2,h3,h4,h5⟩=>⟨a,es,h1,st.sg _ _ h2,st.sh _ _ h3,h4.mono st.sg,h5⟩
theorem SL.step {ρ:Rho} {σ:St} (h:SL K ad G H ρ σ) (st:Step G H G' H'):SL K ad G' H' ρ σ:=
 ⟨h.len,fun i s e=>let ⟨ov,h1,h2⟩:=h.at_ i s e;⟨ov,h1,h2.step st⟩⟩
theorem SL.sh {ρ:Rho} {σ:St} {i:Nat} {d:D} (h:SL K ad G H ρ σ) (e:ρ[i]? =some (.sh d)): ∃ v,σ[i]? =some (some v)∧Rep K ad G d v:=by
 obtain⟨ov,h1,v,rfl,h3⟩:=h.at_ i _ e
 exact⟨v,h1,h3⟩
theorem SL.ow {ρ:Rho} {σ:St} {i:Nat} {xs:List D} (h:SL K ad G H ρ σ) (e:ρ[i]? =some (.ow xs)): ∃ a vs,σ[i]? =some (some (.ref a))∧G a=none∧H a=some (.lst vs)∧Reps K ad G xs vs:=by
 obtain⟨ov,h1,a,vs,rfl,h3⟩:=h.at_ i _ e
 exact⟨a,vs,h1,h3⟩
theorem SL.dc {ρ:Rho} {σ:St} {i:Nat} {kvs:List (D×D)} (h:SL K ad G H ρ σ) (e:ρ[i]? =some (.dc kvs)): ∃ a es,σ[i]? =some (some (.ref a))∧G a=none∧H a=some (dcO a es)∧DR K ad G kvs es∧KOk kvs:=by
 obtain⟨ov,h1,a,es,rfl,h3⟩:=h.at_ i _ e
 exact⟨a,es,h1,h3⟩
theorem SL.sd {ρ:Rho} {σ:St} {i:Nat} {kvs:List (D×D)} (h:SL K ad G H ρ σ) (e:ρ[i]? =some (.sd kvs)): ∃ a es,σ[i]? =some (some (.ref a))∧G a=some (dcO a es)∧H a=some (dcO a es)∧DR K ad G kvs es∧KOk kvs:=by
 obtain⟨ov,h1,a,es,rfl,h3⟩:=h.at_ i _ e
 exact⟨a,es,h1,h3⟩
def RK (K:PySem.W.Frag) (ad:Ad) (G H:Hp) (r:R) (Q:VK) (E:Nat→Hp→Prop):Prop:=match r with
 | .ok d=> ∀ v G' H',Step G H G' H'→Rep K ad G' d v→Q v H'
 | .ow xs=> ∀ p vs G' H',Step G H G' H'→H p=none→G' p=none→H' p=some (.lst vs)→Reps K ad G' xs vs→Q (.ref p) H'
 | .ex c=> ∀ G' H',Step G H G' H'→E c H'
 | .bad=>False
theorem RK.step {r:R} {Q:VK} {E:Nat→Hp→Prop} (h:RK K ad G H r Q E) (st:Step G H G' H'):RK K ad G' H' r Q E:=by
 cases r with
 | ok d=>exact fun v G2 H2 s2 q=>h v G2 H2 (st.trans s2) q
 | ow xs=>exact fun p vs G2 H2 s2 n m e q=>h p vs G2 H2 (st.trans s2) (st.sh.free n) m e q
 | ex c=>exact fun G2 H2 s2=>h G2 H2 (st.trans s2)
 | bad=>exact h
theorem RK.ok_now {d:D} {v:V} {Q:VK} {E:Nat→Hp→Prop} (h:RK K ad G H (.ok d) Q E) (e:Same G H) (q:Rep K ad G d v):Q v H:=h v G H (Step.refl e) q
theorem RK.ow_new {xs:List D} {vs:List V} {p:Addr} {Q:VK} {E:Nat→Hp→Prop} (h:RK K ad G H (.ow xs) Q E) (e:Same G H) (q:Reps K ad G xs vs) (n:H p=none):Q (.ref p) (upd H p (.lst vs)):=
 h p vs G (upd H p (.lst vs)) (Step.own e n) n (e.free n) aH q
theorem RK.tup_new {xs:List D} {vs:List V} {p:Addr} {Q:VK} {E:Nat→Hp→Prop} (h:RK K ad G H (.ok (.tup xs)) Q E) (e:Same G H) (q:Reps K ad G xs vs) (n:H p=none):Q (.ref p) (upd H p (.tup vs)):=by
 refine h (.ref p) (upd G p (.tup vs)) (upd H p (.tup vs)) (Step.new e n) ?_
 unfold Rep
 exact⟨p,vs,rfl,SqT.of aH,q.mono (Same.upd_new (e.free n))⟩
end
noncomputable def CXe (P:Program) (w:World):CXT:=fun outer H s E e s'=>
 ∃ (ea:Addr) (cls a0:Value) (H':Hp) (B:Heap),e= .ref ea∧s'.os=s.os∧AllBare s'.gens∧Heap.FlyingW B outer ea cls a0 s'.heap∧Un (frs outer) [] H H' s.heap s'.heap∧
  HOk P w H' s'.heap∧H' ea=none∧(∀ b o,s.heap.get? b=some o→b∉frs outer→ ∃ o',B.get? b=some o')∧(∀ b o,H' b=some o→ ∃ o',B.get? b=some o')∧E cls none H'
noncomputable def xk (ad:Ad) (E:Nat→Hp→Prop):XK:=fun cls _ H'=> ∃ c,cls= .ref (ad.cls c)∧E c H'
def XP (X:Cx) (ad:Ad) (σ:St) (E:Nat→Hp→Prop):Prop:=
 ∀ (pins:List (Addr×Obj)) (H:Hp) (s:Shared) (e:Value) (s':Shared),Inv X pins σ H s→CXe X.prog X.w X.stack H s (xk ad E) e s'→X.xe e s'
noncomputable def tE (X:Cx) (ad:Ad) (f:F):TE:=fun σ H Q=> ∃ G ρ E,Same G H∧SL X.K ad G H ρ σ∧XP X ad σ E∧RK X.K ad G H (f ρ) Q E
abbrev ME (X:Cx) (ad:Ad) (e:Expr) (f:F):Prop:=PE X e (tE X ad f)
def isTest (r:R):Prop:=(∃ b,r= .ok (.bl b))∨ ∃ c,r= .ex c
noncomputable def tT (X:Cx) (ad:Ad) (f:F):TT:=fun σ H Q=> ∃ G ρ E,Same G H∧SL X.K ad G H ρ σ∧XP X ad σ E∧isTest (f ρ)∧RK X.K ad G H (f ρ) (fun v H'=> ∃ b,v= .bl b∧Q b H') E
abbrev MT (X:Cx) (ad:Ad) (e:Expr) (f:F):Prop:=PT X e (tT X ad f)
abbrev MW (X:Cx) (ad:Ad) (e:Expr) (f:F):Prop:=PW X e (tT X ad f)
def AK (K:PySem.W.Frag) (ad:Ad) (G H:Hp) (r:RA) (Q:List V→Hp→Prop) (E:Nat→Hp→Prop):Prop:=match r with
 | .ok ds=> ∀ vs G' H',Step G H G' H'→Reps K ad G' ds vs→Q vs H'
 | .ex c=> ∀ G' H',Step G H G' H'→E c H'
 | .bad=>False
noncomputable def tA (X:Cx) (ad:Ad) (fs:List F):TA:=fun σ H Q=> ∃ G ρ E,Same G H∧SL X.K ad G H ρ σ∧XP X ad σ E∧AK X.K ad G H (args fs ρ) Q E
abbrev MA (X:Cx) (ad:Ad) (es:List Expr) (fs:List F):Prop:=PA X es (tA X ad fs)
section
variable {X:Cx} {ad:Ad} {pins:List (Addr×Obj)} {s:Shared} {σ:St} {H G:Hp} {ρ:Rho} {Q:VK} {E:Nat→Hp→Prop} {pos:Pos} {a b c:Expr} {f g h:F}
theorem aS {xs:List D} {p:Addr} {vs:List V} {G1 H1:Hp} (st:Step G H G1 H1) (n:H p=none) (m:G1 p=none) (e:H1 p=some (.lst vs)) (q:Reps X.K ad G1 xs vs):
  ∃ G2,Step G H G2 H1∧Rep X.K ad G2 (.lst xs) (.ref p):=by
 refine⟨upd G1 p (.lst vs),st.share n m e, ?_⟩
 unfold Rep
 exact⟨p,vs,rfl,SqL.of aH,q.mono (Same.upd_new m)⟩
theorem ME.thn {k:D→R} (ha:ME X ad a f) (I:Inv X pins σ H s) (hG:Same G H) (hS:SL X.K ad G H ρ σ) (hx:XP X ad σ E) (hr:RK X.K ad G H ((f ρ).bind k) Q E):
  wpAny (model X.prog X.w) X.A (eval a X.env) (fun u s1=> ∃ v d G1 H1,Inv X pins σ H1 s1∧RelV v u∧Step G H G1 H1∧Rep X.K ad G1 d v∧RK X.K ad G1 H1 (k d) Q E) X.xe s:=by
 cases e:f ρ with
 | ok d=>
  rw [e] at hr
  refine L2.thn (ha pins s σ H (fun v H1=> ∃ G1,Step G H G1 H1∧Rep X.K ad G1 d v) I ⟨G,ρ,E,hG,hS,hx,by rw [e];exact fun v G1 H1 st q=>⟨G1,st,q⟩⟩) fun u s1 ⟨v,H1,I1,r1,G1,st,q⟩=> ?_
  exact⟨v,d,G1,H1,I1,r1,st,q,RK.step hr st⟩
 | ow xs=>
  rw [e] at hr
  refine L2.thn (ha pins s σ H (fun v H1=> ∃ G1,Step G H G1 H1∧Rep X.K ad G1 (.lst xs) v) I ⟨G,ρ,E,hG,hS,hx,by rw [e];exact fun p vs G1 H1 st n m e' q=>aS st n m e' q⟩) fun u s1 ⟨v,H1,I1,r1,G1,st,q⟩=> ?_
  exact⟨v, .lst xs,G1,H1,I1,r1,st,q,RK.step hr st⟩
 | ex c=>
  rw [e] at hr
  refine L2.thn (ha pins s σ H (fun v H1=>False) I ⟨G,ρ,E,hG,hS,hx,by rw [e];exact hr⟩) fun u s1 ⟨v,H1,I1,r1,q⟩=>q.elim
 | bad=>
  rw [e] at hr
  exact False.elim hr
theorem aD {i:Int}:Rep X.K ad G (.int i) (.int i):=by unfold Rep;rfl
theorem aK {i:Bool}:Rep X.K ad G (.bl i) (.bl i):=by unfold Rep;rfl
theorem wU:Rep X.K ad G .non .non:=by unfold Rep;rfl
theorem wV {i:Str}:Rep X.K ad G (.str i) (.str i):=by unfold Rep;rfl
theorem lI {i:Nat} {x:Str} (hN:X.N[i]? =some x) (hv:Vis X.env.scope x) (hd:(x==("__debug__":Str))=false) (hcd:(x==("__classdict__":Str))=false):ME X ad (.Name x pos) (rVar i):=by
 intro pins s σ H Q I ⟨G,ρ,E,hG,hS,hx,hr⟩
 unfold rVar at hr
 cases e:ρ[i]? with
 | none=>
  rw [e] at hr
  exact hr.elim
 | some sl=>
  rw [e] at hr
  cases sl with
  | no=>exact hr.elim
  | dc kvs=>exact hr.elim
  | sd kvs=>exact hr.elim
  | ow xs=>exact hr.elim
  | sh d=>
   obtain⟨v,h1,h2⟩:=hS.sh e
   exact bL hN hv hd hcd pins s σ H Q I ⟨v,h1,hr.ok_now hG h2⟩
def MLk (X:Cx) (ad:Ad) (e:Expr) (f:F):Prop:=
 ∀ (pins:List (Addr×Obj)) (s:Shared) (σ:St) (H G:Hp) (ρ:Rho) (k:D→R) (Q:VK) (E:Nat→Hp→Prop),Inv X pins σ H s→Same G H→SL X.K ad G H ρ σ→XP X ad σ E→RK X.K ad G H ((f ρ).bind k) Q E→
  wpAny (model X.prog X.w) X.A (eval e X.env) (fun u s1=> ∃ v d G1 H1,Inv X pins σ H1 s1∧RelV v u∧Step G H G1 H1∧(Rep X.K ad G1 d v∨ ∃ a vs ds,d= .lst ds∧v= .ref a∧G1 a=none∧H1 a=some (.lst vs)∧Reps X.K ad G1 ds vs)∧RK X.K ad G1 H1 (k d) Q E) X.xe s
theorem ME.look (ha:ME X ad a f):MLk X ad a f:=by
 intro pins s σ H G ρ k Q E I hG hS hx hr
 exact L2.thn (ha.thn I hG hS hx hr) fun u s1 ⟨v,d,G1,H1,I1,r1,st,q,z⟩=>⟨v,d,G1,H1,I1,r1,st, .inl q,z⟩
theorem sO {k:Const} {j:Nat} {d:D} (e:kD k=some d):ME X ad (.Constant k j pos) (rK d):=by
 intro pins s σ H Q I ⟨G,ρ,E,hG,hS,hx,hr⟩
 cases k with
 | int i=>cases e;exact zQ pins s σ H Q I (hr.ok_now hG aD)
 | bool i=>cases e;exact aC2 pins s σ H Q I (hr.ok_now hG aK)
 | none=>cases e;exact zR pins s σ H Q I (hr.ok_now hG wU)
 | str i=>cases e;exact zS pins s σ H Q I (hr.ok_now hG wV)
 | float _=>cases e
 | complex _ _=>cases e
 | bytes _=>cases e
 | ellipsis=>cases e
theorem oN {x:Str} {d:D} {u:Value} {v:V} (hg:L2.Gl X x) (hm:X.mg x=some u) (r:RelV v u) (q: ∀ G,Rep X.K ad G d v) (hd:(x==("__debug__":Str))=false):ME X ad (.Name x pos) (rK d):=by
 intro pins s σ H Q I ⟨G,ρ,E,hG,hS,hx,hr⟩
 exact wH hg hm r hd pins s σ H Q I (hr.ok_now hG (q G))
def DOp (X:Cx) (ad:Ad) (t:Value→Value→Sem Value) (r:D→D→R):Prop:=
 ∀ (pins:List (Addr×Obj)) (s:Shared) (σ:St) (H G:Hp) (x y:D) (v w:V) (u z:Value) (Q:VK) (E:Nat→Hp→Prop),Inv X pins σ H s→Same G H→Rep X.K ad G x v→Rep X.K ad G y w→RelV v u→RelV w z→
  RK X.K ad G H (r x y) Q E→wpAny (model X.prog X.w) X.A (t u z) (EP X pins σ Q) X.xe s
theorem aAr {t:Value→Value→Sem Value} {r:D→D→R} (ho:DOp X ad t r) (ha:ME X ad a f) (hb:ME X ad b g) (I:Inv X pins σ H s) (hG:Same G H) (hS:SL X.K ad G H ρ σ) (hx:XP X ad σ E)
  (hr:RK X.K ad G H ((f ρ).bind fun x=>(g ρ).bind fun y=>r x y) Q E):
  wpAny (model X.prog X.w) X.A (eval a X.env) (fun v s₁=>wpAny (model X.prog X.w) X.A (eval b X.env) (fun u s₂=>wpAny (model X.prog X.w) X.A (t v u) (EP X pins σ Q) X.xe s₂) X.xe s₁) X.xe s:=by
 refine L2.thn (ha.thn I hG hS hx hr) fun u s1 hz_=> ?_
 obtain⟨v,d,G1,H1,I1,r1,st1,q1,hr1⟩:=hz_
 refine L2.thn (hb.thn I1 st1.gh (hS.step st1) hx hr1) fun z s2 hz_=> ?_
 obtain⟨w,e,G2,H2,I2,r2,st2,q2,hr2⟩:=hz_
 exact ho pins s2 σ H2 G2 d e v w u z Q E I2 st2.gh (q1.mono st2.sg) q2 r1 r2 hr2
end
section
variable {X:Cx} {ad:Ad} {pins:List (Addr×Obj)} {s:Shared} {σ:St} {H G:Hp} {ρ:Rho} {Q:VK} {E:Nat→Hp→Prop} {pos:Pos} {a b c:Expr} {f g h:F}
theorem lJ {n:Nat} (h:n≤LIM):n≤sizeLine:=Nat.le_trans h (by decide)
theorem j9 {i:Int} (h:sml i=true): -(2 ^ 64)<i∧i<2 ^ 64:=by
 unfold sml at h
 rw [Bool.and_eq_true] at h
 exact⟨of_decide_eq_true h.1,of_decide_eq_true h.2⟩
theorem gH {i:Int} (h:sml i=true):i.natAbs<2 ^ 64:=by
 obtain⟨h1,h2⟩:=j9 h
 omega
theorem sub_int_bool {prog:Program} {w:World} {A:Around} {Ex:Value→Shared→Prop} {s:Shared} {i:Int} {t:Tok} {k:Bool} {Q:Value→Shared→Prop} (h:Q (.int (i - SK.b2i k) s.toks) { s with toks:=s.toks+1 }):
  wpAny (model prog w) A (binaryOp .Sub (.int i t) (.bool k)) Q Ex s:=PySem.IntBool.sub_int_bool h
theorem add_int_bool {prog:Program} {w:World} {A:Around} {Ex:Value→Shared→Prop} {s:Shared} {i:Int} {t:Tok} {k:Bool} {Q:Value→Shared→Prop} (h:Q (.int (i+SK.b2i k) s.toks) { s with toks:=s.toks+1 }):
  wpAny (model prog w) A (binaryOp .Add (.int i t) (.bool k)) Q Ex s:=PySem.add_int_bool h
theorem wW {prog:Program} {w:World} {A:Around} {Ex:Value→Shared→Prop} {s:Shared} {t b:Addr} {ws:List Value} {Q:Value→Shared→Prop} (ht:IsTup s.heap t #[]) (hb:IsTup s.heap b ws.toArray) (h:Q (.ref b) s):
  wpAny (model prog w) A (binaryOp .Add (.ref t) (.ref b)) Q Ex s:=by
 obtain⟨⟨cls,dd,data,sl⟩,ho,hc,n,hd⟩:=id ht
 obtain⟨⟨cls2,dd2,data2,sl2⟩,ho2,hc2,n2,hd2⟩:=id hb
 simp only at hc hd hc2 hd2
 subst hc hd hc2 hd2
 exact concat_meets ⟨_,ho,rfl⟩ ⟨_,ho2,rfl⟩ noFill_tuple_add seq_tuple_add PySem.F.slot_tuple_add PySem.F.entry_tuple_add (PySem.F.args_tuple_add_2 _ _)
   (tuple_addW0 t b #[] ws.toArray n n2 dd dd2 sl sl2 rfl) ⟨ho,ho2,h⟩
theorem dM (its:List Value) (m:Nat):List.foldl (fun x1 x2=>x1++x2) #[] (List.replicate m its.toArray)=(List.replicate m its).flatten.toArray:=by
 have:=iP its m []
 rw [List.nil_append] at this
 exact this
theorem wX {t:Addr} {k:Int} {u:Tok} {xs:List V} {its:List Value} (I:Inv X pins σ H s) (ht:IsTup s.heap t its.toArray) (r:Vals xs its) (h0: -1000000<k) (h1:k<1000000) (hz:xs.length * k.toNat≤sizeLine)
  (q: ∀ p,(p=t∧(List.replicate k.toNat xs).flatten=xs→Q (.ref p) H)∧(H p=none→Q (.ref p) (upd H p (.tup (List.replicate k.toNat xs).flatten)))):
  wpAny (model X.prog X.w) X.A (binaryOp .Mult (.ref t) (.int k u)) (EP X pins σ Q) X.xe s:=by
 obtain⟨⟨cls,dd,data,sl⟩,e,hc,n,hd⟩:=id ht
 simp only at hc hd
 subst hc hd
 have hov:(decide (k< -(2 ^ 63))||decide (k≥2 ^ 63))=false:=by
  rw [Bool.or_eq_false_iff]
  exact⟨decide_eq_false (by omega),decide_eq_false (by omega)⟩
 have hlen:its.length * k.toNat≤sizeLine:=by rw [←r.length];exact hz
 have lrep:(List.replicate k.toNat xs).flatten.length≤sizeLine:=by rw [j0,Nat.mul_comm];exact hz
 refine wpAny_binaryOp_repeat_ref (T:="tuple") (U:="int") (by decide) ⟨_,e,rfl⟩ (fun s'=>typeIs_int s' k u) eA F.fills_int_mul F.slot_int_rmul iT F.slot_int_index.lookup
  (call_meets F.slot_int_rmul (typeIs_int s k u) F.entry_int_rmul (F.args_int_rmul_2 _ _) (cT k u t its.toArray n "tuple" dd sl (.inr rfl))
   ⟨e,rfl,⟨_,e,rfl⟩, ?_⟩)
 by_cases c0:(its.toArray.isEmpty||k==1)=true
 ·refine call_meets F.slot_tuple_mul ⟨_,e,rfl⟩ F.entry_tuple_mul (F.args_tuple_mul_2 _ _) (j4 t its.toArray n k u dd sl hov c0) ⟨e, ?_⟩
  refine⟨.ref t,H,I,rfl,(q t).1 ⟨rfl, ?_⟩⟩
  rcases(Bool.or_eq_true _ _).mp c0 with z | z
  ·have:its=[]:=by simpa using z
   have:xs=[]:=r.nil_iff.mp this
   subst this
   simp
  ·have:k=1:=by simpa using z
   subst this
   simp
 ·by_cases c1:(decide (k≤0)||its.toArray.isEmpty)=true
  ·refine call_meets F.slot_tuple_mul ⟨_,e,rfl⟩ F.entry_tuple_mul (F.args_tuple_mul_2 _ _) (j5 t its.toArray n k u dd sl hov c0 c1) ⟨e, ?_⟩
   have k0:k.toNat=0:=by
    rcases(Bool.or_eq_true _ _).mp c1 with z | z
    ·have:=of_decide_eq_true z
     omega
    ·exact absurd (by rw [z];rfl) c0
   have q2:=(q s.heap.objs.size).2 (I.hok.fresh (Nat.le_refl _))
   rw [k0] at q2
   refine⟨.ref s.heap.objs.size,_,I.laid (t':=s.toks) (o:= .tup []) (fun b ob q=>Heap.get?_push_of_some _ q) (Nat.le_refl _) ?_,rfl,q2⟩
   exact⟨Nat.zero_le _,[], .nil,IsTup.new _ _,⟨_,Heap.get?_push_size _ rfl,rfl⟩⟩
  ·have kp:0<k:=by
    rw [Bool.or_eq_true,not_or] at c1
    have:=c1.1
    rw [decide_eq_true_iff] at this
    omega
   have kk:(k.toNat:Int)=k:=by omega
   have hm:(its.toArray.size:Int) * k=((its.length * k.toNat:Nat):Int):=by rw [Int.natCast_mul,kk,List.size_toArray]
   have hs:(sizeLine:Nat)≤(2 ^ 63 - 1) / 8:=by decide
   refine call_meets F.slot_tuple_mul ⟨_,e,rfl⟩ F.entry_tuple_mul (F.args_tuple_mul_2 _ _) (j6 t its.toArray n k u dd sl hov c0 c1 ?_ ?_ ?_) ⟨e, ?_⟩
   ·rw [hm]
    have:((its.length * k.toNat:Nat):Int)≤((2 ^ 63 - 1) / 8:Int):=by
     have:=Nat.le_trans hlen hs
     omega
    omega
   ·rw [hm]
    unfold Builtin.Tuple.tupleTooMany
    simp only [decide_eq_true_eq,gt_iff_lt,Int.not_lt]
    exact Int.ofNat_le.mpr hlen
   ·rw [dM,List.size_toArray,j0,Nat.mul_comm]
    exact hlen
   ·rw [dM]
    refine⟨.ref s.heap.objs.size,_,I.laid (t':=s.toks) (o:= .tup (List.replicate k.toNat xs).flatten) (fun b ob q=>Heap.get?_push_of_some _ q) (Nat.le_refl _) ?_,rfl,(q _).2 (I.hok.fresh (Nat.le_refl _))⟩
    exact⟨lrep,_,r.rep k.toNat,IsTup.new _ _,⟨_,Heap.get?_push_size _ rfl,rfl⟩⟩
theorem wY {l b:Addr} {xs ys:List V} (I:Inv X pins σ H s) (hl:SqL X.K H l xs) (hb:SqL X.K H b ys) (hz:xs.length+ys.length≤sizeLine) (q: ∀ p,H p=none→Q (.ref p) (upd H p (.lst (xs++ys)))):
  wpAny (model X.prog X.w) X.A (binaryOp .Add (.ref l) (.ref b)) (EP X pins σ Q) X.xe s:=by
 obtain⟨its,r1,⟨⟨cls,dd,data,sl⟩,n,ho,hc,hdd,hd⟩,_⟩:=I.list hl
 obtain⟨its2,r2,⟨⟨cls2,dd2,data2,sl2⟩,n2,ho2,hc2,hdd2,hd2⟩,_⟩:=I.list hb
 simp only at hc hd hc2 hd2 hdd hdd2
 subst hc hd hc2 hd2
 have e:its.toArray++its2.toArray=(its++its2).toArray:=by simp
 refine concat_meets ⟨_,ho,rfl⟩ ⟨_,ho2,rfl⟩ noFill_list_add seq_list_add PySem.F.slot_list_add PySem.F.entry_list_add (PySem.F.args_list_add_2 _ _)
   (list_addW l b its.toArray its2.toArray n n2 dd dd2 sl sl2 (by rw [List.size_toArray,List.size_toArray, ←r1.length, ←r2.length];exact hz)) ⟨ho,ho2, ?_⟩
 rw [e]
 exact⟨.ref _,_,I.lnew (t':=s.toks) (r1.append r2) (by rw [List.length_append];exact hz),rfl,q _ I.fresh⟩
theorem wZ {l:Addr} {k:Int} {u:Tok} {xs:List V} (I:Inv X pins σ H s) (hl:SqL X.K H l xs) (h0: -1000000<k) (h1:k<1000000) (hz:xs.length * k.toNat≤sizeLine) (q: ∀ p,H p=none→Q (.ref p) (upd H p (.lst (List.replicate k.toNat xs).flatten))):
  wpAny (model X.prog X.w) X.A (binaryOp .Mult (.ref l) (.int k u)) (EP X pins σ Q) X.xe s:=by
 obtain⟨its,r,⟨⟨cls,dd,data,sl⟩,n,e,hc,hdd,hd⟩,_⟩:=I.list hl
 simp only at hc hd hdd
 subst hc hd
 have hlen:its.toArray.size * k.toNat≤sizeLine:=by rw [List.size_toArray, ←r.length];exact hz
 have hcap: ¬ its.toArray.size * k.toNat > (2 ^ 63 - 1) / 8:=by
  have:(sizeLine:Nat)≤(2 ^ 63 - 1) / 8:=by decide
  omega
 have hfit: ¬ (!Builtin.List.listFitsIndex k)=true:=by
  rw [fitsIndex_both (by omega) (by omega)]
  exact Bool.false_ne_true
 have hlong: ¬ Builtin.List.listTooLong (its.toArray.size * k.toNat)=true:=by
  rw [lH hlen]
  exact Bool.false_ne_true
 have hnew:List.foldl (fun x1 x2=>x1++x2) #[] (List.replicate (if its.toArray.isEmpty=true then 0 else k.toNat) its.toArray)=(List.replicate k.toNat its).flatten.toArray:=by
  rw [dM]
  cases its with
  | nil=>simp
  | cons a r'=>rw [if_neg (by simp)]
 refine wpAny_binaryOp_repeat_ref (T:="list") (U:="int") (by decide) ⟨_,e,rfl⟩ (fun s'=>typeIs_int s' k u) noFill_list_mul F.fills_int_mul F.slot_int_rmul repeat_list F.slot_int_index.lookup
  (call_meets F.slot_int_rmul (typeIs_int s k u) F.entry_int_rmul (F.args_int_rmul_2 _ _) (cT k u l its.toArray n "list" dd sl (.inl rfl))
   ⟨e,rfl,⟨_,e,rfl⟩,call_meets F.slot_list_mul ⟨_,e,rfl⟩ F.entry_list_mul (F.args_list_mul_2 _ _) (oM l its.toArray n k u dd sl hfit hcap hlong) ⟨e, ?_⟩⟩)
 rw [hnew]
 exact⟨.ref _,_,I.lnew (t':=s.toks) (r.rep k.toNat) (by rw [j0,Nat.mul_comm];exact hz),rfl,q _ I.fresh⟩
theorem w4 (op:Operator):DOp X ad (binaryOp op) (dBin op):=by
 intro pins s σ H G x y v w u z Q E I hG rx ry ru rz hr
 cases x with
 | int i=>
  unfold Rep at rx
  subst rx
  cases y with
  | int j=>
   unfold Rep at ry
   subst ry
   cases op with
   | Add=>exact aAa pins s σ H _ _ u z Q I ru rz ⟨i,j,rfl,rfl,hr.ok_now hG aD⟩
   | Sub=>exact aAb pins s σ H _ _ u z Q I ru rz ⟨i,j,rfl,rfl,hr.ok_now hG aD⟩
   | Mult=>
    have hr':RK X.K ad G H (if sml i||sml j then R.ok (.int (i * j)) else .bad) Q E:=hr
    by_cases hc:(sml i||sml j)=true
    ·rw [if_pos hc] at hr'
     refine aAc pins s σ H _ _ u z Q I ru rz ⟨i,j,rfl,rfl, ?_,hr'.ok_now hG aD⟩
     rcases(Bool.or_eq_true _ _).mp hc with h | h
     ·exact .inl (j9 h)
     ·exact .inr (j9 h)
    ·rw [if_neg hc] at hr'
     exact hr'.elim
   | FloorDiv=>
    have hr':RK X.K ad G H (if 0<j∧j<1073741824 then R.ok (.int (i / j)) else .bad) Q E:=hr
    by_cases hc:0<j∧j<1073741824
    ·rw [if_pos hc] at hr'
     exact wN pins s σ H _ _ u z Q I ru rz ⟨i,j,rfl,rfl,hc,hr'.ok_now hG aD⟩
    ·rw [if_neg hc] at hr'
     exact hr'.elim
   | Mod=>
    have hr':RK X.K ad G H (if 0<j then R.ok (.int (i % j)) else .bad) Q E:=hr
    by_cases hc:0<j
    ·rw [if_pos hc] at hr'
     exact aAd pins s σ H _ _ u z Q I ru rz ⟨i,j,rfl,rfl,hc,hr'.ok_now hG aD⟩
    ·rw [if_neg hc] at hr'
     exact hr'.elim
   | LShift=>
    have hr':RK X.K ad G H (if 0≤j∧j≤1000∧sml i=true then R.ok (.int (i * 2 ^ j.toNat)) else .bad) Q E:=hr
    by_cases hc:0≤j∧j≤1000∧sml i=true
    ·rw [if_pos hc] at hr'
     exact aAe pins s σ H _ _ u z Q I ru rz ⟨i,j,rfl,rfl,⟨hc.1,by omega,gH hc.2.2⟩,hr'.ok_now hG aD⟩
    ·rw [if_neg hc] at hr'
     exact hr'.elim
   | RShift=>
    have hr':RK X.K ad G H (if 0≤j then R.ok (.int (i / 2 ^ j.toNat)) else .bad) Q E:=hr
    by_cases hc:0≤j
    ·rw [if_pos hc] at hr'
     exact aAf pins s σ H _ _ u z Q I ru rz ⟨i,j,rfl,rfl,hc,hr'.ok_now hG aD⟩
    ·rw [if_neg hc] at hr'
     exact hr'.elim
   | BitAnd=>exact aAg pins s σ H _ _ u z Q I ru rz ⟨i,j,rfl,rfl,hr.ok_now hG aD⟩
   | BitOr=>exact aC6 pins s σ H _ _ u z Q I ru rz ⟨i,j,rfl,rfl,hr.ok_now hG aD⟩
   | BitXor=>exact aAh pins s σ H _ _ u z Q I ru rz ⟨i,j,rfl,rfl,hr.ok_now hG aD⟩
   | MatMult=>exact False.elim hr
   | Div=>exact False.elim hr
   | Pow=>exact False.elim hr
  | bl k=>
   unfold Rep at ry
   subst ry
   obtain⟨t,rfl⟩:=ru
   cases (show z=Value.bool k from rz)
   cases op with
   | Sub=>exact sub_int_bool ⟨.int _,H,I.tok _,⟨_,rfl⟩,hr.ok_now hG aD⟩
   | Add=>exact add_int_bool ⟨.int _,H,I.tok _,⟨_,rfl⟩,hr.ok_now hG aD⟩
   | _=>exact False.elim hr
  | _=>cases op<;>exact False.elim hr
 | tup xs=>
  unfold Rep at rx
  obtain⟨p,vs,rfl,hp,rp⟩:=rx
  cases y with
  | tup ys=>
   unfold Rep at ry
   obtain⟨q,ws,rfl,hq,rq⟩:=ry
   cases op with
   | Add=>
    have hr':RK X.K ad G H (if xs.length+ys.length≤LIM then R.ok (.tup (xs++ys)) else .bad) Q E:=hr
    by_cases hc:xs.length+ys.length≤LIM
    ·rw [if_pos hc] at hr'
     have l1:=rp.length
     have l2:=rq.length
     by_cases hv:vs=[]
     ·subst hv
      cases (show u=Value.ref p from ru)
      cases (show z=Value.ref q from rz)
      obtain⟨its,r1,p1,_⟩:=I.tuple (hG.seqT hp)
      obtain⟨its2,r2,p2,_⟩:=I.tuple (hG.seqT hq)
      cases r1
      refine wW p1 p2 ⟨.ref q,H,I,rfl,hr'.ok_now hG ?_⟩
      have:xs=[]:=by simpa using l1.symm
      subst this
      unfold Rep
      exact⟨q,ws,rfl,hq,rq⟩
     ·refine wP pins s σ H _ _ u z Q I ru rz ⟨p,q,vs,ws,rfl,rfl,hG.seqT hp,hG.seqT hq,hv,by rw [l1,l2];exact lJ hc,fun hw=> ?_,fun hw a ha=> ?_⟩
      ·subst hw
       have:ys=[]:=by simpa using l2.symm
       subst this
       refine hr'.ok_now hG ?_
       unfold Rep
       exact⟨p,vs,rfl,hp,by rw [List.append_nil];exact rp⟩
      ·exact hr'.tup_new hG (rp.append rq) ha
    ·rw [if_neg hc] at hr'
     exact hr'.elim
   | _=>exact False.elim hr
  | int k=>
   unfold Rep at ry
   subst ry
   cases op with
   | Mult=>
    have hr':RK X.K ad G H (if -1000000<k∧k<1000000∧xs.length * k.toNat≤LIM then R.ok (.tup (repL xs k)) else .bad) Q E:=hr
    by_cases hc: -1000000<k∧k<1000000∧xs.length * k.toNat≤LIM
    ·rw [if_pos hc] at hr'
     cases (show u=Value.ref p from ru)
     obtain⟨t,rfl⟩:=rz
     obtain⟨its,r1,p1,_⟩:=I.tuple (hG.seqT hp)
     refine wX I p1 r1 hc.1 hc.2.1 (by rw [rp.length];exact lJ hc.2.2) fun a=>⟨fun⟨e1,e2⟩=> ?_,fun ha=> ?_⟩
     ·subst e1
      refine hr'.ok_now hG ?_
      unfold Rep
      exact⟨a,vs,rfl,hp,by rw [←e2];exact rp.rep k.toNat⟩
     ·exact hr'.tup_new hG (rp.rep k.toNat) ha
    ·rw [if_neg hc] at hr'
     exact hr'.elim
   | _=>exact False.elim hr
  | _=>cases op<;>exact False.elim hr
 | lst xs=>
  unfold Rep at rx
  obtain⟨p,vs,rfl,hp,rp⟩:=rx
  cases y with
  | lst ys=>
   unfold Rep at ry
   obtain⟨q,ws,rfl,hq,rq⟩:=ry
   cases op with
   | Add=>
    have hr':RK X.K ad G H (if xs.length+ys.length≤LIM then R.ow (xs++ys) else .bad) Q E:=hr
    by_cases hc:xs.length+ys.length≤LIM
    ·rw [if_pos hc] at hr'
     cases (show u=Value.ref p from ru)
     cases (show z=Value.ref q from rz)
     exact wY I (hG.seq hp) (hG.seq hq) (by rw [rp.length,rq.length];exact lJ hc) fun a ha=>hr'.ow_new hG (rp.append rq) ha
    ·rw [if_neg hc] at hr'
     exact hr'.elim
   | _=>exact False.elim hr
  | int k=>
   unfold Rep at ry
   subst ry
   cases op with
   | Mult=>
    have hr':RK X.K ad G H (if -1000000<k∧k<1000000∧xs.length * k.toNat≤LIM then R.ow (repL xs k) else .bad) Q E:=hr
    by_cases hc: -1000000<k∧k<1000000∧xs.length * k.toNat≤LIM
    ·rw [if_pos hc] at hr'
     cases (show u=Value.ref p from ru)
     obtain⟨t,rfl⟩:=rz
     exact wZ I (hG.seq hp) hc.1 hc.2.1 (by rw [rp.length];exact lJ hc.2.2) fun a ha=>hr'.ow_new hG (rp.rep k.toNat) ha
    ·rw [if_neg hc] at hr'
     exact hr'.elim
   | _=>exact False.elim hr
  | _=>cases op<;>exact False.elim hr
 | _=>cases y<;>cases op<;>exact False.elim hr
theorem aAs {op:Operator} (ha:ME X ad a f) (hb:ME X ad b g):ME X ad (.BinOp a op b pos) (rBin op f g):=by
 intro pins s σ H Q I ⟨G,ρ,E,hG,hS,hx,hr⟩
 exact wpAny_BinOp (aAr (w4 op) ha hb I hG hS hx hr)
end
section
variable {X:Cx} {ad:Ad} {pins:List (Addr×Obj)} {s:Shared} {σ:St} {H G:Hp} {ρ:Rho} {Q:VK} {E:Nat→Hp→Prop} {pos:Pos} {a b c:Expr} {f g h:F}
mutual
theorem bC (I:Inv X pins σ H s) (hG:Same G H): ∀ {d:D} {v:V} {u:Value},plain d=true→Rep X.K ad G d v→RelV v u→ ∃ as,Reads s.heap u (toPy d) as
 | .non,v,u,_,h,r=>by
  unfold Rep at h;subst h
  cases r
  unfold toPy
  exact⟨_, .none⟩
 | .bl b,v,u,_,h,r=>by
  unfold Rep at h;subst h
  cases r
  unfold toPy
  exact⟨_, .bool b⟩
 | .int i,v,u,_,h,r=>by
  unfold Rep at h;subst h
  obtain⟨t,rfl⟩:=r
  unfold toPy
  exact⟨_, .int i t⟩
 | .str x,v,u,_,h,r=>by
  unfold Rep at h;subst h
  obtain⟨t,rfl⟩:=r
  unfold toPy
  exact⟨_, .str x t⟩
 | .tup ds,v,u,p,h,r=>by
  unfold Rep at h
  obtain⟨a,vs,rfl,h2,h3⟩:=h
  cases r
  obtain⟨its,rv,⟨o,ho,hc,n,hd⟩,_⟩:=I.tuple (hG.seqT h2)
  obtain⟨as,ra⟩:=bG I hG (by simpa [plain] using p) h3 rv
  unfold toPy
  exact⟨_, .tuple ho hc hd (by simpa using ra)⟩
 | .lst ds,v,u,p,h,r=>by
  unfold Rep at h
  obtain⟨a,vs,rfl,h2,h3⟩:=h
  cases r
  obtain⟨its,rv,⟨o,n,ho,hc,_,hd⟩,_⟩:=I.list (hG.seq h2)
  obtain⟨as,ra⟩:=bG I hG (by simpa [plain] using p) h3 rv
  unfold toPy
  exact⟨_, .list ho hc hd (by simpa using ra)⟩
 | .exc _,_,_,p,_,_=>by simp [plain] at p
 | .fn _,_,_,p,_,_=>by simp [plain] at p
theorem bG (I:Inv X pins σ H s) (hG:Same G H): ∀ {ds:List D} {vs:List V} {us:List Value},plains ds=true→Reps X.K ad G ds vs→Vals vs us→ ∃ as,ReadsAll s.heap us (toPys ds) as
 | [],vs,us,_,h,r=>by
  unfold Reps at h;subst h
  cases r
  unfold toPys
  exact⟨_, .nil⟩
 | d::ds,vs,us,p,h,r=>by
  unfold Reps at h
  obtain⟨v,r',rfl,h2,h3⟩:=h
  have p':plain d=true∧plains ds=true:=by simpa [plains] using p
  cases r with
  | cons r1 r2=>
   obtain⟨as,q1⟩:=bC I hG p'.1 h2 r1
   obtain⟨bs,q2⟩:=bG I hG p'.2 h3 r2
   unfold toPys
   exact⟨_, .cons q1 q2⟩
end
theorem eC {x y:D} (h:eqOk x y=true):plain x=true∧plain y=true∧min (dep x) (dep y)≤60:=by
 unfold eqOk at h
 rw [Bool.and_eq_true,Bool.and_eq_true] at h
 exact⟨h.1.1,h.1.2,of_decide_eq_true h.2⟩
theorem w5 {A:Around} {x y:D} {v w:V} {u z:Value} (hu:A.units+61<cLine) (I:Inv X pins σ H s) (hG:Same G H) (h:eqOk x y=true) (rx:Rep X.K ad G x v) (ry:Rep X.K ad G y w) (ru:RelV v u) (rz:RelV w z):
  SeqAt.EqAt A s u z (deq x y):=by
 obtain⟨p1,p2,p3⟩:=eC h
 obtain⟨as,q1⟩:=bC I hG p1 rx ru
 obtain⟨bs,q2⟩:=bC I hG p2 ry rz
 rw [←b8 x y p1 p2]
 exact SeqAt.eqAt_reads (toPy x) (toPy y) A s u z as bs q1 q2 (bY p1) (bY p2) (by rw [bZ,bZ];omega)
theorem kC {M:Model} {A:Around} {Ex:Value→Shared→Prop} {s:Shared} {Q:Value→Shared→Prop} {v:V} {u:Value} {b:Bool} (r:RelV v u) (h:Q (.bool (decide (v= .bl b))) s):wpAny M A (compareOp .Is u (.bool b)) Q Ex s:=by
 cases v with
 | bl a=>
  cases (show u=Value.bool a from r)
  refine wpAny_pure (show Q (.bool (Value.bool a==Value.bool b)) s from ?_)
  have e:(Value.bool a==Value.bool b)=decide (V.bl a=V.bl b):=by cases a<;>cases b<;>rfl
  rw [e];exact h
 | non=>cases (show u=Value.none from r);exact wpAny_pure h
 | int i=>obtain⟨t,rfl⟩:=r;exact wpAny_pure h
 | str i=>obtain⟨t,rfl⟩:=r;exact wpAny_pure h
 | byt i=>obtain⟨t,rfl⟩:=r;exact wpAny_pure h
 | flt i=>obtain⟨t,rfl⟩:=r;exact wpAny_pure h
 | ref p=>cases (show u=Value.ref p from r);exact wpAny_pure h
 | ty p=>cases (show u=Value.type p from r);exact wpAny_pure h
theorem fE {M:Model} {A:Around} {Ex:Value→Shared→Prop} {s:Shared} {Q:Value→Shared→Prop} {v:V} {u:Value} {b:Bool} (r:RelV v u) (h:Q (.bool (!decide (v= .bl b))) s):wpAny M A (compareOp .IsNot u (.bool b)) Q Ex s:=by
 cases v with
 | bl a=>
  cases (show u=Value.bool a from r)
  refine wpAny_pure (show Q (.bool (!(Value.bool a==Value.bool b))) s from ?_)
  have e:(Value.bool a==Value.bool b)=decide (V.bl a=V.bl b):=by cases a<;>cases b<;>rfl
  rw [e];exact h
 | non=>cases (show u=Value.none from r);exact wpAny_pure h
 | int i=>obtain⟨t,rfl⟩:=r;exact wpAny_pure h
 | str i=>obtain⟨t,rfl⟩:=r;exact wpAny_pure h
 | byt i=>obtain⟨t,rfl⟩:=r;exact wpAny_pure h
 | flt i=>obtain⟨t,rfl⟩:=r;exact wpAny_pure h
 | ref p=>cases (show u=Value.ref p from r);exact wpAny_pure h
 | ty p=>cases (show u=Value.type p from r);exact wpAny_pure h
theorem iV {x:D} {v:V} {b:Bool} (r:Rep X.K ad G x v):decide (v= .bl b)=isBl b x:=by
 cases x with
 | bl a=>unfold Rep at r;subst r;cases a<;>cases b<;>rfl
 | non=>unfold Rep at r;subst r;rfl
 | int _=>unfold Rep at r;subst r;rfl
 | str _=>unfold Rep at r;subst r;rfl
 | tup _=>unfold Rep at r;obtain⟨p,_,rfl,_⟩:=r;rfl
 | lst _=>unfold Rep at r;obtain⟨p,_,rfl,_⟩:=r;rfl
 | exc _=>unfold Rep at r;obtain⟨p,rfl,_⟩:=r;rfl
 | fn _=>unfold Rep at r;subst r;rfl
theorem fJ {x:D} {v:V} (r:Rep X.K ad G x v):decide (v= .non)=isNon x:=by
 cases x with
 | bl a=>unfold Rep at r;subst r;rfl
 | non=>unfold Rep at r;subst r;rfl
 | int _=>unfold Rep at r;subst r;rfl
 | str _=>unfold Rep at r;subst r;rfl
 | tup _=>unfold Rep at r;obtain⟨p,_,rfl,_⟩:=r;rfl
 | lst _=>unfold Rep at r;obtain⟨p,_,rfl,_⟩:=r;rfl
 | exc _=>unfold Rep at r;obtain⟨p,rfl,_⟩:=r;rfl
 | fn _=>unfold Rep at r;subst r;rfl
theorem eL {y:D} {ys:List D} {w:V} (e:items y=some ys) (r:Rep X.K ad G y w): ∃ a vs,w= .ref a∧(SqT X.K G a vs∨SqL X.K G a vs)∧Reps X.K ad G ys vs:=by
 cases y with
 | tup _=>cases e;unfold Rep at r;obtain⟨a,vs,h1,h2,h3⟩:=r;exact⟨a,vs,h1, .inl h2,h3⟩
 | lst _=>cases e;unfold Rep at r;obtain⟨a,vs,h1,h2,h3⟩:=r;exact⟨a,vs,h1, .inr h2,h3⟩
 | _=>cases e
theorem lK: ∀ {ys:List D} {vs:List V} {us:List Value},Reps X.K ad G ys vs→Vals vs us→ ∀ u∈us, ∃ d∈ys, ∃ v,Rep X.K ad G d v∧RelV v u
 | [],vs,us,h,r,u,hu=>by
  unfold Reps at h;subst h
  cases r
  cases hu
 | d::ds,vs,us,h,r,u,hu=>by
  unfold Reps at h
  obtain⟨v,r',rfl,h2,h3⟩:=h
  cases r with
  | cons r1 r2=>
   rcases List.mem_cons.mp hu with rfl | hu
   ·exact⟨d, .head _,v,h2,r1⟩
   ·obtain⟨d',hd,v',q⟩:=lK h3 r2 u hu
    exact⟨d', .tail _ hd,v',q⟩
theorem lL (p:D→Bool) (q:Value→Bool): ∀ {ys:List D} {vs:List V} {us:List Value},Reps X.K ad G ys vs→Vals vs us→(∀ d∈ys, ∀ v u,Rep X.K ad G d v→RelV v u→q u=p d)→us.any q=ys.any p
 | [],vs,us,h,r,_=>by
  unfold Reps at h;subst h
  cases r
  rfl
 | d::ds,vs,us,h,r,k=>by
  unfold Reps at h
  obtain⟨v,r',rfl,h2,h3⟩:=h
  cases r with
  | cons r1 r2=>
   rw [List.any_cons,List.any_cons,k d (.head _) v _ h2 r1,lL p q h3 r2 fun d' hd=>k d' (.tail _ hd)]
theorem fK (p:D→Bool) (q:Value→Bool): ∀ {ys:List D} {vs:List V} {us:List Value},Reps X.K ad G ys vs→Vals vs us→(∀ d∈ys, ∀ v u,Rep X.K ad G d v→RelV v u→q u=p d)→us.countP q=ys.countP p
 | [],vs,us,h,r,_=>by
  unfold Reps at h;subst h
  cases r
  rfl
 | d::ds,vs,us,h,r,k=>by
  unfold Reps at h
  obtain⟨v,r',rfl,h2,h3⟩:=h
  cases r with
  | cons r1 r2=>
   rw [List.countP_cons,List.countP_cons,k d (.head _) v _ h2 r1,fK p q h3 r2 fun d' hd=>k d' (.tail _ hd)]
theorem iW (p:D→Bool) (q:Value→Bool): ∀ {ys:List D} {vs:List V} {us:List Value},Reps X.K ad G ys vs→Vals vs us→(∀ d∈ys, ∀ v u,Rep X.K ad G d v→RelV v u→q u=p d)→us.findIdx? q=ys.findIdx? p
 | [],vs,us,h,r,_=>by
  unfold Reps at h;subst h
  cases r
  rfl
 | d::ds,vs,us,h,r,k=>by
  unfold Reps at h
  obtain⟨v,r',rfl,h2,h3⟩:=h
  cases r with
  | cons r1 r2=>
   rw [List.findIdx?_cons,List.findIdx?_cons,k d (.head _) v _ h2 r1,iW p q h3 r2 fun d' hd=>k d' (.tail _ hd)]
open Classical in
theorem dA {x:D} {ys:List D} {v:V} {u:Value} {vs:List V} {its:List Value} (hu:X.A.units+62<cLine) (I:Inv X pins σ H s) (hG:Same G H) (h:inOk x ys=true) (rx:Rep X.K ad G x v) (ru:RelV v u) (r:Reps X.K ad G ys vs) (rv:Vals vs its):
  ∃ e:Value→Bool,(∀ y,y∈its.toArray→SeqAt.EqAt X.A.in1 s y u (e y))∧its.toArray.any e=(ys.any fun y=>deq y x)∧its.countP e=(ys.countP fun y=>deq y x)∧its.findIdx? e=ys.findIdx? fun y=>deq y x:=by
 have ok: ∀ d∈ys,eqOk d x=true:=fun d hd=>zAd h d hd
 have key: ∀ d∈ys, ∀ v' u',Rep X.K ad G d v'→RelV v' u'→(decide (∃ d' as,plain d'=true∧Reads s.heap u' (toPy d') as∧PyData.eqv (toPy d') (toPy x)=true))=deq d x:=fun d hd v' u' r1 r2=>by
  obtain⟨p1,p2,_⟩:=eC (ok d hd)
  obtain⟨as,q1⟩:=bC I hG p1 r1 r2
  rw [←b8 d x p1 p2]
  by_cases z:PyData.eqv (toPy d) (toPy x)=true
  ·rw [z]
   exact decide_eq_true ⟨d,as,p1,q1,z⟩
  ·rw [Bool.not_eq_true] at z
   rw [z]
   refine decide_eq_false ?_
   rintro⟨d',as',p',q',z'⟩
   have:=SeqAt.Reads.unique (toPy d) (toPy d') u' as as' (bY p1) q1 q'
   rw [←this,z] at z'
   cases z'
 refine⟨fun u'=>decide (∃ d' as,plain d'=true∧Reads s.heap u' (toPy d') as∧PyData.eqv (toPy d') (toPy x)=true),fun y hy=> ?_, ?_,fK _ _ r rv key,iW _ _ r rv key⟩
 ·obtain⟨d,hd,v',r1,r2⟩:=lK r rv y (by simpa using hy)
  have:=w5 (A:=X.A.in1) (by show X.A.units+1+61<_;omega) I hG (ok d hd) r1 rx r2 ru
  rw [←key d hd v' y r1 r2] at this
  exact this
 ·rw [List.any_toArray]
  exact lL _ _ r rv key
theorem eM (op:CmpOp) (hu:X.A.units+62<cLine):DOp X ad (compareOp op) (dCmp op):=by
 intro pins s σ H G x y v w u z Q E I hG rx ry ru rz hr
 cases op with
 | Eq=>
  have hr':RK X.K ad G H (if eqOk x y then R.ok (.bl (deq x y)) else .bad) Q E:=hr
  by_cases hc:eqOk x y=true
  ·rw [if_pos hc] at hr'
   obtain⟨p1,p2,p3⟩:=eC hc
   obtain⟨as,q1⟩:=bC I hG p1 rx ru
   obtain⟨bs,q2⟩:=bC I hG p2 ry rz
   exact SeqAt.compareEq_reads q1 q2 (bY p1) (bY p2) (by rw [bZ,bZ];omega) (by rw [b8 x y p1 p2];exact⟨.bl _,H,I,rfl,hr'.ok_now hG aK⟩)
  ·rw [if_neg hc] at hr'
   exact hr'.elim
 | NotEq=>
  have hr':RK X.K ad G H (if eqOk x y then R.ok (.bl (!deq x y)) else .bad) Q E:=hr
  by_cases hc:eqOk x y=true
  ·rw [if_pos hc] at hr'
   obtain⟨p1,p2,p3⟩:=eC hc
   obtain⟨as,q1⟩:=bC I hG p1 rx ru
   obtain⟨bs,q2⟩:=bC I hG p2 ry rz
   exact SeqAt.neOverData X.prog X.w X.A X.xe s u z (toPy x) (toPy y) as bs _ q1 q2 (bY p1) (bY p2) (by rw [bZ,bZ];omega) (by rw [b8 x y p1 p2];exact⟨.bl _,H,I,rfl,hr'.ok_now hG aK⟩)
  ·rw [if_neg hc] at hr'
   exact hr'.elim
 | Lt=>
  cases x<;>cases y<;>try exact False.elim hr
  unfold Rep at rx ry;subst rx;subst ry
  exact aC7 pins s σ H _ _ u z Q I ru rz ⟨_,_,rfl,rfl,hr.ok_now hG aK⟩
 | LtE=>
  cases x<;>cases y<;>try exact False.elim hr
  unfold Rep at rx ry;subst rx;subst ry
  exact aC8 pins s σ H _ _ u z Q I ru rz ⟨_,_,rfl,rfl,hr.ok_now hG aK⟩
 | Gt=>
  cases x<;>cases y<;>try exact False.elim hr
  unfold Rep at rx ry;subst rx;subst ry
  exact aC9 pins s σ H _ _ u z Q I ru rz ⟨_,_,rfl,rfl,hr.ok_now hG aK⟩
 | GtE=>
  cases x<;>cases y<;>try exact False.elim hr
  unfold Rep at rx ry;subst rx;subst ry
  exact aDa pins s σ H _ _ u z Q I ru rz ⟨_,_,rfl,rfl,hr.ok_now hG aK⟩
 | Is=>
  cases y<;>try exact False.elim hr
  ·unfold Rep at ry;subst ry
   exact aAj pins s σ H _ _ u z Q I ru rz ⟨rfl,by rw [fJ rx];exact hr.ok_now hG aK⟩
  ·unfold Rep at ry;subst ry
   rename_i k
   cases (show z=Value.bool k from rz)
   exact kC ru ⟨.bl _,H,I,rfl,by rw [iV rx];exact hr.ok_now hG aK⟩
 | IsNot=>
  cases y<;>try exact False.elim hr
  ·unfold Rep at ry;subst ry
   exact wO pins s σ H _ _ u z Q I ru rz ⟨rfl,by rw [fJ rx];exact hr.ok_now hG aK⟩
  ·unfold Rep at ry;subst ry
   rename_i k
   cases (show z=Value.bool k from rz)
   exact fE ru ⟨.bl _,H,I,rfl,by rw [iV rx];exact hr.ok_now hG aK⟩
 | In=>
  have hr':RK X.K ad G H (match items y with | some ys=>if inOk x ys then R.ok (.bl (ys.any fun y=>deq y x)) else .bad | none=> .bad) Q E:=hr
  cases e:items y with
  | none=>rw [e] at hr';exact hr'.elim
  | some ys=>
   rw [e] at hr'
   by_cases hc:inOk x ys=true
   ·have hr2:RK X.K ad G H (if inOk x ys then R.ok (.bl (ys.any fun y=>deq y x)) else .bad) Q E:=hr'
    rw [if_pos hc] at hr2
    obtain⟨p,vs,rfl,hq,rq⟩:=eL e ry
    cases (show z=Value.ref p from rz)
    rcases hq with hq | hq
    ·obtain⟨its,rv,pt,_⟩:=I.tuple (hG.seqT hq)
     obtain⟨e1,e2,e3,_⟩:=dA hu I hG hc rx ru rq rv
     exact SeqAt.in_tupleAt e1 (show s.heap.IsTuple p its.toArray from pt) e2 (by rw [e3];exact⟨.bl _,H,I,rfl,hr2.ok_now hG aK⟩)
    ·obtain⟨its,rv,pt,_⟩:=I.list (hG.seq hq)
     obtain⟨e1,e2,e3,_⟩:=dA hu I hG hc rx ru rq rv
     exact SeqAt.in_listAt e1 pt.isList e2 (by rw [e3];exact⟨.bl _,H,I,rfl,hr2.ok_now hG aK⟩)
   ·have hr2:RK X.K ad G H (if inOk x ys then R.ok (.bl (ys.any fun y=>deq y x)) else .bad) Q E:=hr'
    rw [if_neg hc] at hr2
    exact hr2.elim
 | NotIn=>
  have hr':RK X.K ad G H (match items y with | some ys=>if inOk x ys then R.ok (.bl (!ys.any fun y=>deq y x)) else .bad | none=> .bad) Q E:=hr
  cases e:items y with
  | none=>rw [e] at hr';exact hr'.elim
  | some ys=>
   rw [e] at hr'
   have hr2:RK X.K ad G H (if inOk x ys then R.ok (.bl (!ys.any fun y=>deq y x)) else .bad) Q E:=hr'
   by_cases hc:inOk x ys=true
   ·rw [if_pos hc] at hr2
    obtain⟨p,vs,rfl,hq,rq⟩:=eL e ry
    cases (show z=Value.ref p from rz)
    rcases hq with hq | hq
    ·obtain⟨its,rv,pt,_⟩:=I.tuple (hG.seqT hq)
     obtain⟨e1,e2,e3,_⟩:=dA hu I hG hc rx ru rq rv
     exact SeqAt.notIn_tupleAt e1 (show s.heap.IsTuple p its.toArray from pt) e2 (by rw [e3];exact⟨.bl _,H,I,rfl,hr2.ok_now hG aK⟩)
    ·obtain⟨its,rv,pt,_⟩:=I.list (hG.seq hq)
     obtain⟨e1,e2,e3,_⟩:=dA hu I hG hc rx ru rq rv
     exact SeqAt.notIn_listAt e1 pt.isList e2 (by rw [e3];exact⟨.bl _,H,I,rfl,hr2.ok_now hG aK⟩)
   ·rw [if_neg hc] at hr2
    exact hr2.elim
end
theorem PE.imp {X:Cx} {e:Expr} {t t':TE} (h:PE X e t) (k: ∀ σ H Q,t' σ H Q→t σ H Q):PE X e t':=fun pins s σ H Q I w=>h pins s σ H Q I (k σ H Q w)
theorem PT.imp {X:Cx} {e:Expr} {t t':TT} (h:PT X e t) (k: ∀ σ H Q,t' σ H Q→t σ H Q):PT X e t':=fun pins s σ H Q I w=>h pins s σ H Q I (k σ H Q w)
theorem PW.imp {X:Cx} {e:Expr} {t t':TT} (h:PW X e t) (k: ∀ σ H Q,t' σ H Q→t σ H Q):PW X e t':=fun wh pins s σ H Q I w=>h wh pins s σ H Q I (k σ H Q w)
theorem PS.imp {X:Cx} {e:Stmt} {t t':TS} (h:PS X e t) (k: ∀ D σ H,t' D σ H→t D σ H):PS X e t':=fun pins s σ H D I w=>h pins s σ H D I (k D σ H w)
theorem PSs.imp {X:Cx} {e:List Stmt} {t t':TS} (h:PSs X e t) (k: ∀ D σ H,t' D σ H→t D σ H):PSs X e t':=fun pins s σ H D I w=>h pins s σ H D I (k D σ H w)
theorem PA.imp {X:Cx} {es:List Expr} {t t':TA} (h:PA X es t) (k: ∀ σ H Q,t' σ H Q→t σ H Q):PA X es t':=fun p pins s σ H Q I w=>h p pins s σ H Q I (k σ H Q w)
section
variable {X:Cx} {ad:Ad} {pins:List (Addr×Obj)} {s:Shared} {σ:St} {H G:Hp} {ρ:Rho} {Q:VK} {E:Nat→Hp→Prop} {pos:Pos} {a b c:Expr} {f g h:F}
theorem gI {k:D→R} {σ:St} {H:Hp} {Q Q':VK} (hG:Same G H) (hS:SL X.K ad G H ρ σ) (hx:XP X ad σ E) (hr:RK X.K ad G H ((f ρ).bind k) Q E)
  (q: ∀ v d G1 H1,Step G H G1 H1→Rep X.K ad G1 d v→RK X.K ad G1 H1 (k d) Q E→Q' v H1):tE X ad f σ H Q':=by
 refine⟨G,ρ,E,hG,hS,hx, ?_⟩
 cases e:f ρ with
 | ok d=>
  rw [e] at hr
  exact fun v G1 H1 st r=>q v d G1 H1 st r (RK.step hr st)
 | ow xs=>
  rw [e] at hr
  intro p vs G1 H1 st n m e' r
  obtain⟨G2,st2,r2⟩:=aS (X:=X) (ad:=ad) st n m e' r
  exact q _ _ G2 H1 st2 r2 (RK.step hr st2)
 | ex c=>
  rw [e] at hr
  exact hr
 | bad=>
  rw [e] at hr
  exact hr
theorem gJ (hx:XP X ad σ E) {G1 H1:Hp} (st:Step G H G1 H1) (hS:SL X.K ad G H ρ σ) {Q:VK} (hr:RK X.K ad G1 H1 (f ρ) Q E):tE X ad f σ H1 Q:=⟨G1,ρ,E,st.gh,hS.step st,hx,hr⟩
theorem aAt (ha:ME X ad a f):ME X ad (.UnaryOp .Not a pos) (rNot f):=by
 refine PE.imp (zX ha) ?_
 rintro σ H Q ⟨G,ρ,E,hG,hS,hx,hr⟩
 refine gI hG hS hx hr fun v d G1 H1 st r k=> ?_
 cases d<;>try exact False.elim k
 unfold Rep at r;subst r
 exact⟨_,rfl,k.ok_now st.gh aK⟩
theorem aAu (ha:ME X ad a f):ME X ad (.UnaryOp .USub a pos) (rNeg f):=by
 refine PE.imp (aC5 aAi ha) ?_
 rintro σ H Q ⟨G,ρ,E,hG,hS,hx,hr⟩
 refine gI hG hS hx hr fun v d G1 H1 st r k=> ?_
 cases d<;>try exact False.elim k
 unfold Rep at r;subst r
 exact⟨_,rfl,k.ok_now st.gh aD⟩
theorem aAv {σ:St} {H:Hp} {Q:VK} (h:tE X ad (rAnd f g) σ H Q):tAndV (tE X ad f) (tE X ad g) σ H Q:=by
 obtain⟨G,ρ,E,hG,hS,hx,hr⟩:=h
 refine gI hG hS hx hr fun v d G1 H1 st r k=> ?_
 cases d<;>try exact False.elim k
 rename_i b
 unfold Rep at r;subst r
 refine⟨b,rfl, ?_⟩
 cases b with
 | true=>exact iteT (gJ hx st hS k)
 | false=>exact iteF (k.ok_now st.gh aK)
theorem aDc {σ:St} {H:Hp} {Q:VK} (h:tE X ad (rOr f g) σ H Q):tOrV (tE X ad f) (tE X ad g) σ H Q:=by
 obtain⟨G,ρ,E,hG,hS,hx,hr⟩:=h
 refine gI hG hS hx hr fun v d G1 H1 st r k=> ?_
 cases d<;>try exact False.elim k
 rename_i b
 unfold Rep at r;subst r
 refine⟨b,rfl, ?_⟩
 cases b with
 | true=>exact iteT (k.ok_now st.gh aK)
 | false=>exact iteF (gJ hx st hS k)
theorem vF {r:List Expr} (ha:ME X ad a f) (hb:ME X ad (.BoolOp .And (b::r) pos) g):ME X ad (.BoolOp .And (a::b::r) pos) (rAnd f g):=PE.imp (zW ha hb) fun _ _ _ h=>aAv h
theorem aAw {r:List Expr} (ha:ME X ad a f) (hb:ME X ad (.BoolOp .Or (b::r) pos) g):ME X ad (.BoolOp .Or (a::b::r) pos) (rOr f g):=PE.imp (aC3 ha hb) fun _ _ _ h=>aDc h
theorem vG {op:BoolOp} (hb:ME X ad b g):ME X ad (.BoolOp op [b] pos) g:=zV hb
theorem aDd {σ:St} {H:Hp} {Q:Bool→Hp→Prop} (h:tT X ad f σ H Q):tE X ad f σ H fun x H1=> ∃ k,x= .bl k∧Q k H1:=by
 obtain⟨G,ρ,E,hG,hS,hx,ht,hr⟩:=h
 exact⟨G,ρ,E,hG,hS,hx,hr⟩
theorem aAx (ha:ME X ad a f) (he: ∀ whole,isTrue a X.env whole=(do let v←whole;standAt a.pos;holding [v] (truthy v))):MT X ad a f:=PT.imp (zT ha he) fun _ _ _ h=>aDd h
theorem bS {r:R} {k:D→R} (h:isTest (r.bind k)):(∃ d,r= .ok d∧isTest (k d))∨(∃ xs,r= .ow xs∧isTest (k (.lst xs)))∨ ∃ c,r= .ex c:=by
 cases r with
 | ok d=>exact .inl ⟨d,rfl,h⟩
 | ow xs=>exact .inr (.inl ⟨xs,rfl,h⟩)
 | ex c=>exact .inr (.inr ⟨c,rfl⟩)
 | bad=>
  rcases h with ⟨_,h⟩ | ⟨_,h⟩<;>cases h
theorem aM: ¬ isTest .bad:=by
 rintro(⟨_,h⟩ | ⟨_,h⟩)<;>cases h
theorem aAy {σ:St} {H:Hp} {Q:Bool→Hp→Prop} (h:tT X ad (rNot f) σ H Q):tNot (tT X ad f) σ H Q:=by
 obtain⟨G,ρ,E,hG,hS,hx,ht,hr⟩:=h
 rcases bS ht with ⟨d,e,ht⟩ | ⟨xs,e,ht⟩ | ⟨c,e⟩
 ·cases d<;>try exact(aM ht).elim
  rename_i b
  refine⟨G,ρ,E,hG,hS,hx, .inl ⟨b,e⟩, ?_⟩
  have hr':RK X.K ad G H ((f ρ).bind fun x=>match x with | .bl b=> .ok (.bl (!b)) | _=> .bad) (fun v H'=> ∃ b,v= .bl b∧Q b H') E:=hr
  rw [e] at hr' ⊢
  intro v G1 H1 st r
  unfold Rep at r;subst r
  obtain⟨b',e',q⟩:=hr' (.bl (!b)) G1 H1 st aK
  cases e'
  exact⟨b,rfl,q⟩
 ·exact(aM ht).elim
 ·refine⟨G,ρ,E,hG,hS,hx, .inr ⟨c,e⟩, ?_⟩
  have hr':RK X.K ad G H ((f ρ).bind fun x=>match x with | .bl b=> .ok (.bl (!b)) | _=> .bad) (fun v H'=> ∃ b,v= .bl b∧Q b H') E:=hr
  rw [e] at hr' ⊢
  exact hr'
theorem aAz (ha:MT X ad a f):MT X ad (.UnaryOp .Not a pos) (rNot f):=PT.imp (zU ha) fun _ _ _ h=>aAy h
theorem aA0 {σ:St} {H:Hp} {Q:Bool→Hp→Prop} (h:tT X ad (rAnd f g) σ H Q):tAnd (tT X ad f) (tT X ad g) σ H Q:=by
 obtain⟨G,ρ,E,hG,hS,hx,ht,hr⟩:=h
 have hr':RK X.K ad G H ((f ρ).bind fun x=>match x with | .bl true=>g ρ | .bl false=> .ok (.bl false) | _=> .bad) (fun v H'=> ∃ b,v= .bl b∧Q b H') E:=hr
 rcases bS ht with ⟨d,e,ht⟩ | ⟨xs,e,ht⟩ | ⟨c,e⟩
 ·cases d<;>try exact(aM ht).elim
  rename_i b
  refine⟨G,ρ,E,hG,hS,hx, .inl ⟨b,e⟩, ?_⟩
  rw [e] at hr' ⊢
  intro v G1 H1 st r
  unfold Rep at r;subst r
  refine⟨b,rfl, ?_⟩
  cases b with
  | true=>exact iteT ⟨G1,ρ,E,st.gh,hS.step st,hx,ht,RK.step hr' st⟩
  | false=>
   obtain⟨b',e',q⟩:=hr' (.bl false) G1 H1 st aK
   cases e'
   exact iteF q
 ·exact(aM ht).elim
 ·refine⟨G,ρ,E,hG,hS,hx, .inr ⟨c,e⟩, ?_⟩
  rw [e] at hr' ⊢
  exact hr'
theorem aDe {σ:St} {H:Hp} {Q:Bool→Hp→Prop} (h:tT X ad (rOr f g) σ H Q):tOr (tT X ad f) (tT X ad g) σ H Q:=by
 obtain⟨G,ρ,E,hG,hS,hx,ht,hr⟩:=h
 have hr':RK X.K ad G H ((f ρ).bind fun x=>match x with | .bl true=> .ok (.bl true) | .bl false=>g ρ | _=> .bad) (fun v H'=> ∃ b,v= .bl b∧Q b H') E:=hr
 rcases bS ht with ⟨d,e,ht⟩ | ⟨xs,e,ht⟩ | ⟨c,e⟩
 ·cases d<;>try exact(aM ht).elim
  rename_i b
  refine⟨G,ρ,E,hG,hS,hx, .inl ⟨b,e⟩, ?_⟩
  rw [e] at hr' ⊢
  intro v G1 H1 st r
  unfold Rep at r;subst r
  refine⟨b,rfl, ?_⟩
  cases b with
  | true=>
   obtain⟨b',e',q⟩:=hr' (.bl true) G1 H1 st aK
   cases e'
   exact iteT q
  | false=>exact iteF ⟨G1,ρ,E,st.gh,hS.step st,hx,ht,RK.step hr' st⟩
 ·exact(aM ht).elim
 ·refine⟨G,ρ,E,hG,hS,hx, .inr ⟨c,e⟩, ?_⟩
  rw [e] at hr' ⊢
  exact hr'
theorem vH {r:List Expr} (ha:MT X ad a f) (hb:MW X ad (.BoolOp .And (b::r) pos) g):MW X ad (.BoolOp .And (a::b::r) pos) (rAnd f g):=PW.imp (pw_and ha hb) fun _ _ _ h=>aA0 h
theorem aA1 {r:List Expr} (ha:MT X ad a f) (hb:MW X ad (.BoolOp .Or (b::r) pos) g):MW X ad (.BoolOp .Or (a::b::r) pos) (rOr f g):=PW.imp (pw_or ha hb) fun _ _ _ h=>aDe h
theorem vI {op:BoolOp} (hb:MT X ad b g):MW X ad (.BoolOp op [b] pos) g:=by
 cases op with
 | And=>exact pw_and1 hb
 | Or=>exact pw_or1 hb
theorem oO {op:CmpOp} {x y:D}:(∃ k,dCmp op x y= .ok (.bl k))∨dCmp op x y= .bad:=by
 cases op<;>unfold dCmp<;>(repeat' split)<;>first | exact .inr rfl | exact .inl ⟨_,rfl⟩
theorem link {op:CmpOp} {x y:D} {v w:V} {u z:Value} (hu:X.A.units+62<cLine) (I:Inv X pins σ H s) (hG:Same G H) (rx:Rep X.K ad G x v) (ry:Rep X.K ad G y w) (ru:RelV v u) (rz:RelV w z) {k:D→R}
  (hr:RK X.K ad G H ((dCmp op x y).bind k) Q E):wpAny (model X.prog X.w) X.A (compareOp op u z) (fun d s3=> ∃ b G' H',d= .bool b∧Step G H G' H'∧Inv X pins σ H' s3∧RK X.K ad G' H' (k (.bl b)) Q E) X.xe s:=by
 rcases oO (op:=op) (x:=x) (y:=y) with ⟨b,e⟩ | e
 ·rw [e] at hr
  refine L2.thn (eM op hu pins s σ H G x y v w u z (fun q H'=> ∃ G',Step G H G' H'∧q= .bl b) E I hG rx ry ru rz (by rw [e];exact fun q G' H' st r=>⟨G',st,by unfold Rep at r;exact r⟩)) fun d s3 ⟨q,H',I',r',G',st,e1⟩=> ?_
  subst e1
  cases r'
  exact⟨b,G',H',rfl,st,I',RK.step hr st⟩
 ·rw [e] at hr
  exact hr.elim
theorem sP {op op':CmpOp} (hu:X.A.units+62<cLine) (ha:ME X ad a f) (hb:ME X ad b g) (hc:ME X ad c h) (hm:lastMarks [op,op'] [b,c]=false):ME X ad (.Compare a [op,op'] [b,c] pos) (rChain op op' f g h):=by
 intro pins s σ H Q I ⟨G,ρ,E,hG,hS,hx,hr⟩
 refine Compare_chain (L2.thn (ha.thn I hG hS hx hr) fun v s1 ⟨x,d1,G1,H1,I1,r1,st1,q1,k1⟩=>chain_link (L2.thn (hb.thn I1 st1.gh (hS.step st1) hx k1) fun u s2 ⟨y,d2,G2,H2,I2,r2,st2,q2,k2⟩=>
  L2.thn (link hu I2 st2.gh (q1.mono st2.sg) q2 r1 r2 k2) fun d s3 ⟨k,G3,H3,e,st3,I3,k3⟩=> ?_)) hm
 subst e
 refine wpAny_truthy_bool ?_
 cases k with
 | false=>exact ite_ff ⟨.bl false,H3,I3,rfl,k3.ok_now st3.gh aK⟩
 | true=>
  refine ite_tt (chain_last (L2.thn (hc.thn I3 st3.gh (((hS.step st1).step st2).step st3) hx k3) fun w' s4 hz_=> ?_))
  obtain⟨z',d4,G4,H4,I4,r4,st4,q4,k4⟩:=hz_
  exact eM op' hu pins s4 σ H4 G4 d2 d4 y z' u w' Q E I4 st4.gh ((q2.mono st3.sg).mono st4.sg) q4 r2 r4 k4
theorem sQ {op op':CmpOp} (hu:X.A.units+62<cLine) (ha:ME X ad a f) (hb:ME X ad b g) (hc:ME X ad c h) (hm:lastMarks [op,op'] [b,c]=false):MT X ad (.Compare a [op,op'] [b,c] pos) (rChain op op' f g h):=by
 intro pins s σ H Q I ⟨G,ρ,E,hG,hS,hx,ht,hr⟩
 refine isTrue_chain (L2.thn (ha.thn I hG hS hx hr) fun v s1 ⟨x,d1,G1,H1,I1,r1,st1,q1,k1⟩=>test_link (L2.thn (hb.thn I1 st1.gh (hS.step st1) hx k1) fun u s2 ⟨y,d2,G2,H2,I2,r2,st2,q2,k2⟩=>
  L2.thn (link hu I2 st2.gh (q1.mono st2.sg) q2 r1 r2 k2) fun d s3 ⟨k,G3,H3,e,st3,I3,k3⟩=> ?_)) hm
 subst e
 refine wpAny_truthy_bool ?_
 cases k with
 | false=>
  obtain⟨k',e',q'⟩:=k3.ok_now (v:= .bl false) st3.gh aK
  cases e'
  exact ite_ff ⟨H3,I3,q'⟩
 | true=>
  refine ite_tt (test_last (L2.thn (hc.thn I3 st3.gh (((hS.step st1).step st2).step st3) hx k3) fun w' s4 hz_=> ?_))
  obtain⟨z',d4,G4,H4,I4,r4,st4,q4,k4⟩:=hz_
  refine L2.thn (eM op' hu pins s4 σ H4 G4 d2 d4 y z' u w' _ E I4 st4.gh ((q2.mono st3.sg).mono st4.sg) q4 r2 r4 k4) fun d' s5 hz_=> ?_
  obtain⟨z2,H5,I5,r5,k2,e2,q5⟩:=hz_
  subst e2
  cases r5
  exact wpAny_truthy_bool ⟨H5,I5,q5⟩
theorem sR (hc:MT X ad c h) (ha:ME X ad a f) (hb:ME X ad b g):ME X ad (.IfExp c a b pos) (rIf h f g):=by
 refine PE.imp (sE hc ha hb) ?_
 rintro σ H Q ⟨G,ρ,E,hG,hS,hx,hr⟩
 have hr':RK X.K ad G H ((h ρ).bind fun x=>match x with | .bl true=>f ρ | .bl false=>g ρ | _=> .bad) Q E:=hr
 cases e:h ρ with
 | ok d=>
  rw [e] at hr'
  cases d<;>try exact hr'.elim
  rename_i k
  refine⟨G,ρ,E,hG,hS,hx, .inl ⟨k,e⟩, ?_⟩
  rw [e]
  intro v G1 H1 st r
  unfold Rep at r;subst r
  refine⟨k,rfl, ?_⟩
  cases k with
  | true=>exact iteT (gJ hx st hS (RK.step hr' st))
  | false=>exact iteF (gJ hx st hS (RK.step hr' st))
 | ow xs=>rw [e] at hr';exact hr'.elim
 | ex k=>
  rw [e] at hr'
  exact⟨G,ρ,E,hG,hS,hx, .inr ⟨k,e⟩,by rw [e];exact hr'⟩
 | bad=>rw [e] at hr';exact hr'.elim
theorem vJ:MA X ad [] []:=PA.imp bN fun σ H Q ⟨G,ρ,E,hG,hS,hx,hr⟩=>hr [] G H (Step.refl hG) Reps.nil
theorem kF {es:List Expr} {fs:List F} (ha:ME X ad a f) (hr:MA X ad es fs) (hs:starEach (a::es) X.env=(false,eval a X.env)::starEach es X.env):MA X ad (a::es) (f::fs):=by
 refine PA.imp (aR ha hr hs) ?_
 rintro σ H Q ⟨G,ρ,E,hG,hS,hx,hr⟩
 have main: ∀ d,AK X.K ad G H ((args fs ρ).cons d) Q E→ ∀ v G1 H1,Step G H G1 H1→Rep X.K ad G1 d v→tA X ad fs σ H1 fun xs H2=>Q (v::xs) H2:=fun d hk v G1 H1 st r=>by
  refine⟨G1,ρ,E,st.gh,hS.step st,hx, ?_⟩
  cases e:args fs ρ with
  | ok ds=>rw [e] at hk;exact fun vs G2 H2 st2 r2=>hk (v::vs) G2 H2 (st.trans st2) (Reps.cons (r.mono st2.sg) r2)
  | ex c=>rw [e] at hk;exact fun G2 H2 st2=>hk G2 H2 (st.trans st2)
  | bad=>rw [e] at hk;exact hk
 refine⟨G,ρ,E,hG,hS,hx, ?_⟩
 unfold args at hr
 cases e:f ρ with
 | ok d=>rw [e] at hr;exact fun v G1 H1 st r=>main d hr v G1 H1 st r
 | ow xs=>
  rw [e] at hr
  intro p vs G1 H1 st n m e' r
  obtain⟨G2,st2,r2⟩:=aS (X:=X) (ad:=ad) st n m e' r
  exact main _ hr _ G2 H1 st2 r2
 | ex c=>rw [e] at hr;exact hr
 | bad=>rw [e] at hr;exact hr
theorem gK {fs:List F} {ρ:Rho} {ds:List D} (h:args fs ρ= .ok ds):ds.length=fs.length:=by
 induction fs generalizing ds with
 | nil=>cases h;rfl
 | cons f fs ih=>
  unfold args at h
  cases e:f ρ with
  | ok d=>
   rw [e] at h
   cases e2:args fs ρ with
   | ok r=>rw [e2] at h;cases h;simp [ih e2]
   | ex c=>rw [e2] at h;cases h
   | bad=>rw [e2] at h;cases h
  | ow d=>
   rw [e] at h
   cases e2:args fs ρ with
   | ok r=>rw [e2] at h;cases h;simp [ih e2]
   | ex c=>rw [e2] at h;cases h
   | bad=>rw [e2] at h;cases h
  | ex c=>rw [e] at h;cases h
  | bad=>rw [e] at h;cases h
theorem kG {fs:List F} {k:List D→R} {σ:St} {H:Hp} {Q:VK} {Q':List V→Hp→Prop} (hG:Same G H) (hS:SL X.K ad G H ρ σ) (hx:XP X ad σ E) (hr:RK X.K ad G H (rAll fs ρ k) Q E)
  (q: ∀ vs ds G1 H1,Step G H G1 H1→Reps X.K ad G1 ds vs→ds.length=fs.length→RK X.K ad G1 H1 (k ds) Q E→Q' vs H1):tA X ad fs σ H Q':=by
 refine⟨G,ρ,E,hG,hS,hx, ?_⟩
 unfold rAll at hr
 cases e:args fs ρ with
 | ok ds=>rw [e] at hr;exact fun vs G1 H1 st r=>q vs ds G1 H1 st r (gK e) (RK.step hr st)
 | ex c=>rw [e] at hr;exact hr
 | bad=>rw [e] at hr;exact hr
theorem aA2 {es:List Expr} {fs:List F} {j:Nat} (ha:MA X ad es fs) (hl:fs.length≤1000):ME X ad (.Tuple es j pos) (rTup fs):=by
 refine PE.imp (aAk ha) ?_
 rintro σ H Q ⟨G,ρ,E,hG,hS,hx,hr⟩
 refine⟨G,ρ,E,hG,hS,hx, ?_⟩
 have hr':RK X.K ad G H ((args fs ρ).then fun xs=> .ok (.tup xs)) Q E:=hr
 cases e:args fs ρ with
 | ok ds=>
  rw [e] at hr'
  intro vs G1 H1 st r
  refine⟨?_,fun p hp=>(RK.step hr' st).tup_new st.gh r hp⟩
  have:=r.length
  rw [this,gK e]
  exact Nat.le_trans hl (by decide)
 | ex c=>rw [e] at hr';exact hr'
 | bad=>rw [e] at hr';exact hr'
theorem aA3 {es:List Expr} {fs:List F} (ha:MA X ad es fs) (hl:fs.length≤1000):ME X ad (.List es pos) (rLst fs):=by
 refine PE.imp (aAl ha) ?_
 rintro σ H Q ⟨G,ρ,E,hG,hS,hx,hr⟩
 refine⟨G,ρ,E,hG,hS,hx, ?_⟩
 have hr':RK X.K ad G H ((args fs ρ).then fun xs=> .ow xs) Q E:=hr
 cases e:args fs ρ with
 | ok ds=>
  rw [e] at hr'
  intro vs G1 H1 st r
  refine⟨?_,fun p hp=>(RK.step hr' st).ow_new st.gh r hp⟩
  have:=r.length
  rw [this,gK e]
  exact Nat.le_trans hl (by decide)
 | ex c=>rw [e] at hr';exact hr'
 | bad=>rw [e] at hr';exact hr'
def Seq (X:Cx) (ad:Ad) (G H:Hp) (x:D) (v:V):Prop:=Rep X.K ad G x v∨ ∃ a vs ds,x= .lst ds∧v= .ref a∧G a=none∧H a=some (.lst vs)∧Reps X.K ad G ds vs
theorem Seq.step {G1 H1:Hp} {x:D} {v:V} (q:Seq X ad G H x v) (st:Step G H G1 H1):Seq X ad G1 H1 x v:=by
 rcases q with q | ⟨a,vs,ds,e1,e2,h1,h2,h3⟩
 ·exact .inl (q.mono st.sg)
 ·refine .inr ⟨a,vs,ds,e1,e2, ?_,st.sh _ _ h2,h3.mono st.sg⟩
  cases z:G1 a with
  | none=>rfl
  | some o=>
   have:=st.nw a h1 (by rw [z];exact fun z=>nomatch z)
   rw [h2] at this
   cases this
theorem Seq.items {x:D} {v:V} {ds:List D} (q:Seq X ad G H x v) (hG:Same G H) (e:items x=some ds): ∃ a vs,v= .ref a∧(x= .tup ds∧SqT X.K H a vs∨x= .lst ds∧SqL X.K H a vs)∧Reps X.K ad G ds vs:=by
 rcases q with q | ⟨a,vs,ds',e1,e2,h1,h2,h3⟩
 ·cases x with
  | tup _=>cases e;unfold Rep at q;obtain⟨a,vs,h1,h2,h3⟩:=q;exact⟨a,vs,h1, .inl ⟨rfl,hG.seqT h2⟩,h3⟩
  | lst _=>cases e;unfold Rep at q;obtain⟨a,vs,h1,h2,h3⟩:=q;exact⟨a,vs,h1, .inr ⟨rfl,hG.seq h2⟩,h3⟩
  | _=>cases e
 ·subst e1
  cases e
  exact⟨a,vs,e2, .inr ⟨rfl,SqL.of h2⟩,h3⟩
theorem lM (n:Nat) (i:Int):ixD n i=L2.ixN n i:=rfl
theorem aDf (ha:MLk X ad a f) (hb:ME X ad b g) (hs:PlainIx b):ME X ad (.Subscript a b pos) (rIx f g):=by
 intro pins s σ H Q I ⟨G,ρ,E,hG,hS,hx,hr⟩
 refine Subscript_ (L2.thn (ha pins s σ H G ρ _ Q E I hG hS hx hr) fun v s1 hz_=> ?_)
 obtain⟨x,d1,G1,H1,I1,r1,st1,q1,k1⟩:=hz_
 refine L2.thn (hb.thn I1 st1.gh (hS.step st1) hx k1) fun u s2 hz_=> ?_
 obtain⟨y,d2,G2,H2,I2,r2,st2,q2,k2⟩:=hz_
 have q1':Seq X ad G2 H2 d1 x:=Seq.step (X:=X) (ad:=ad) q1 st2
 unfold dIx at k2
 cases e:items d1 with
 | none=>rw [e] at k2;exact k2.elim
 | some ds=>
  rw [e] at k2
  cases d2<;>try exact k2.elim
  rename_i i
  unfold Rep at q2;subst q2
  obtain⟨p,vs,rfl,hq,rq⟩:=q1'.items st2.gh e
  have hr2:RK X.K ad G2 H2 (match(ixD ds.length i).bind fun j=>ds[j]? with | some d=> .ok d | none=> .bad) Q E:=k2
  cases e3:(ixD ds.length i).bind fun j=>ds[j]? with
  | none=>rw [e3] at hr2;exact hr2.elim
  | some d=>
   rw [e3] at hr2
   obtain⟨j,e4,e5⟩:=zBd e3
   obtain⟨w,e6,r6⟩:=rq.get e5
   have hat:atI vs i=some w:=by
    unfold atI
    rw [rq.length, ←lM,e4]
    exact e6
   rcases hq with ⟨_,hq⟩ | ⟨_,hq⟩
   ·exact aAo a b pins s2 σ H2 _ _ v u Q I2 r1 r2 ⟨p,vs,i,w,rfl,rfl,hq,hat,hr2.ok_now st2.gh r6⟩ (hs _ _)
   ·exact wQ a b pins s2 σ H2 _ _ v u Q I2 r1 r2 ⟨p,vs,i,w,rfl,rfl,hq,hat,hr2.ok_now st2.gh r6⟩ (hs _ _)
theorem cU {prog:Program} {w:World} {A:Around} {Ex:Value→Shared→Prop} {s:Shared} {t sl:Addr} {items:Array Value} {vl vu:Value} {lo hi:Option Int} {Q:Value→Shared→Prop} (ht:IsTup s.heap t items) (hs:s.heap.IsSliceOf sl vl vu .none)
  (pl:IsPart vl lo) (pu:IsPart vu hi) (hw:HT.sIx items.size 0 lo=0∧HT.sIx items.size items.size hi=items.size) (h:Q (.ref t) s) (hsz:items.size≤sizeLine):wpAny (model prog w) A (getItem (.ref t) (.ref sl)) Q Ex s:=by
 obtain⟨os,hos,hcs,hds⟩:=id hs
 have ts:s.TypeIs (.ref sl) "slice":=⟨os,hos,hcs⟩
 unfold getItem
 try with_reducible refine wpAny_holding ?_
 first | refine wpAny_bind (wpAny_pure ?_) | skip
 refine wpAny_bind (wpAny_sequenceKey ht.typeIs (by decide) ?_)
 refine wpAny_bind (wpAny_callSpecial?_slot (name:=Str.ofString "__getitem__") ht.typeIs PyProof.Rows.slot_tuple_getitem
  (wpAny_call_entry PyProof.Rows.slot_tuple_getitem ht.typeIs entry_tuple_getitem ?_ (args_tuple_getitem _ _)))
 show wpAny _ _ (Builtin.Tuple.tupleItemsOf (.ref t) >>= _) _ _ s
 refine wpAny_bind (tupleItemsOf_ ht ?_)
 refine wpAny_bind (wpAny_typeOf ts ?_)
 rw [if_pos (by decide)]
 refine wpAny_bind (HT.sliceApplied_gen hs pl pu ?_)
 have yes:(((HT.sIx items.size 0 lo:Nat):Int)==0&&(1:Int)==1&&(HT.sIx items.size items.size hi - HT.sIx items.size 0 lo)==items.size)=true:=by
  rw [hw.1,hw.2]
  simp
 show wpAny _ _ (if(((HT.sIx items.size 0 lo:Nat):Int)==0&&(1:Int)==1&&(HT.sIx items.size items.size hi - HT.sIx items.size 0 lo)==items.size)=true then _ else _) _ _ s
 rw [if_pos yes]
 unfold Builtin.Tuple.tupleIsExact
 refine wpAny_bind (m:=(do let z←typeOf (.ref t);return z== .type "tuple")) (wpAny_bind (wpAny_typeOf ht.typeIs (wpAny_pure ?_)))
 rw [if_pos (by decide)]
 first
  | exact wpAny_bind (wpAny_rule (wpAny_bind (wpAny_pure (wpAny_pure ⟨_,rfl,wpAny_pure h⟩))))
  | exact wpAny_bind (wpAny_rule (wpAny_pure ⟨_,rfl,wpAny_pure h⟩))
  | exact wpAny_bind (wpAny_bind (wpAny_rule (wpAny_pure (wpAny_pure ⟨_,rfl,wpAny_pure h⟩))))
  | skip
theorem lN: ∀ {ds:List D} {vs:List V} (lo hi:Option Int),Reps X.K ad G ds vs→Reps X.K ad G (cutD ds lo hi) (cutV vs lo hi):=by
 intro ds vs lo hi r
 unfold cutD cutV
 rw [r.length]
 exact(r.drop _).take _
theorem aA4:SlR X (fun x lo hi H Q=> ∃ a vs,x= .ref a∧((SqT X.K H a vs∧(HT.sIx vs.length 0 lo=0∧HT.sIx vs.length vs.length hi=vs.length→Q (.ref a) H)∧ ∀ p,H p=none→Q (.ref p) (upd H p (.tup (cutV vs lo hi))))∨
  (SqL X.K H a vs∧ ∀ p,H p=none→Q (.ref p) (upd H p (.lst (cutV vs lo hi)))))):=by
 intro pins s σ H x v vl vu lo hi sl Q I rx hs pl pu q
 obtain⟨a,vs,rfl,⟨hq,q1,q2⟩ | ⟨hq,q⟩⟩:=q
 ·by_cases hw:HT.sIx vs.length 0 lo=0∧HT.sIx vs.length vs.length hi=vs.length
  ·cases rx
   obtain⟨its,r,ht,hz⟩:=I.tuple hq
   have hlen:its.toArray.size=vs.length:=by rw [List.size_toArray];exact r.length.symm
   refine⟨"tuple",_,PyProof.Rows.slot_tuple_getitem.lookup,ht.typeIs, ?_⟩
   refine cU ht hs pl pu (by rw [hlen];exact hw) ⟨.ref a,H,I,rfl,q1 hw⟩ (by rw [hlen];exact hz)
  ·exact aAn pins s σ H _ v vl vu lo hi sl Q I rx hs pl pu ⟨a,vs,rfl,hq,hw,q2⟩
 ·exact wR pins s σ H _ v vl vu lo hi sl Q I rx hs pl pu ⟨a,vs,rfl,hq,q⟩
theorem lO {x:D} {v:V} {lo hi:Option Int} (q:Seq X ad G H x v) (hG:Same G H) (hr:RK X.K ad G H (dCut x lo hi) Q E):
  ∃ a vs,v= .ref a∧((SqT X.K H a vs∧(HT.sIx vs.length 0 lo=0∧HT.sIx vs.length vs.length hi=vs.length→Q (.ref a) H)∧ ∀ p,H p=none→Q (.ref p) (upd H p (.tup (cutV vs lo hi))))∨(SqL X.K H a vs∧ ∀ p,H p=none→Q (.ref p) (upd H p (.lst (cutV vs lo hi))))):=by
 cases x with
 | tup ds=>
  rcases q with q | ⟨_,_,_,z,_⟩
  ·unfold Rep at q
   obtain⟨a,vs,rfl,hq,rq⟩:=q
   refine⟨a,vs,rfl, .inl ⟨hG.seqT hq,fun e=> ?_,fun p hp=>RK.tup_new (xs:=cutD ds lo hi) hr hG (lN lo hi rq) hp⟩⟩
   refine RK.ok_now (d:= .tup (cutD ds lo hi)) hr hG ?_
   have e':cutD ds lo hi=ds:=by
    rw [rq.length] at e
    have e1:cutIx ds.length 0 lo=0:=e.1
    have e2:cutIx ds.length ds.length hi=ds.length:=e.2
    unfold cutD
    rw [e1,e2]
    simp
   rw [e']
   unfold Rep
   exact⟨a,vs,rfl,hq,rq⟩
  ·cases z
 | lst ds=>
  obtain⟨a,vs,rfl,hq,rq⟩:=q.items hG (rfl:items (.lst ds)=some ds)
  rcases hq with ⟨z,_⟩ | ⟨_,hq⟩
  ·cases z
  ·exact⟨a,vs,rfl, .inr ⟨hq,fun p hp=>RK.ow_new (xs:=cutD ds lo hi) hr hG (lN lo hi rq) hp⟩⟩
 | _=>exact False.elim hr
theorem aA5 {l u:Option Expr} {fl fu:Option F} {p2:Pos} (ha:MLk X ad a f) (hl:match l,fl with | none,none=>True | some e,some k=>ME X ad e k | _,_=>False) (hu:match u,fu with | none,none=>True | some e,some k=>ME X ad e k | _,_=>False):
  ME X ad (.Subscript a (.Slice l u none p2) pos) (rCut f fl fu):=by
 intro pins s σ H Q I ⟨G,ρ,E,hG,hS,hx,hr⟩
 -- the value first
 have key: ∀ (k:D→R),RK X.K ad G H ((f ρ).bind k) Q E→(∀ (pins:List (Addr×Obj)) (s1:Shared) (x:V) (d:D) (G1 H1:Hp),Inv X pins σ H1 s1→Step G H G1 H1→Seq X ad G1 H1 d x→RK X.K ad G1 H1 (k d) Q E→
   wpAny (model X.prog X.w) X.A (evalPart l X.env) (fun vl s2=>wpAny (model X.prog X.w) X.A (evalPart u X.env) (fun vu s3=> ∃ lo hi H3,Inv X pins σ H3 s3∧IsPart vl lo∧IsPart vu hi∧
    ∃ a vs,x= .ref a∧((SqT X.K H3 a vs∧(HT.sIx vs.length 0 lo=0∧HT.sIx vs.length vs.length hi=vs.length→Q (.ref a) H3)∧ ∀ p,H3 p=none→Q (.ref p) (upd H3 p (.tup (cutV vs lo hi))))∨(SqL X.K H3 a vs∧ ∀ p,H3 p=none→Q (.ref p) (upd H3 p (.lst (cutV vs lo hi)))))) X.xe s2) X.xe s1)→
   wpAny (model X.prog X.w) X.A (eval (.Subscript a (.Slice l u none p2) pos) X.env) (EP X pins σ Q) X.xe s:=fun k hk go=>by
  refine Subscript_ (L2.thn (ha pins s σ H G ρ k Q E I hG hS hx hk) fun v s1 hz_=> ?_)
  obtain⟨x,d1,G1,H1,I1,r1,st1,q1,k1⟩:=hz_
  refine wpAny_Slice (L2.thn (go pins s1 x d1 G1 H1 I1 st1 q1 k1) fun vl s2 h2=>L2.thn h2 fun vu s3 hz_=> ?_)
  obtain⟨lo,hi,H3,I3,pl,pu,q3⟩:=hz_
  rw [evalPart_none]
  refine wpAny_pure ?_
  have I4:Inv X pins σ H3 { s3 with heap:=s3.heap.push { cls:= .type "slice",data:= .fields #[vl,vu, .none] } }:=I3.kept (t':=s3.toks) fun b ob q=>Heap.get?_push_of_some _ q
  obtain⟨T,id,hT,ht,hg⟩:=aA4 pins { s3 with heap:=s3.heap.push { cls:= .type "slice",data:= .fields #[vl,vu, .none] } } σ H3 x v vl vu lo hi s3.heap.objs.size Q I4 r1 (Heap.IsSliceOf.new ..) pl pu q3
  show wpAny (model X.prog X.w) X.A (subscriptTail a (.Slice l u none p2) v (.ref s3.heap.objs.size)) (EP X pins σ Q) X.xe { s3 with heap:=s3.heap.push { cls:= .type "slice",data:= .fields #[vl,vu, .none] } }
  exact tail_any (ops:=[.ref s3.heap.objs.size,v]) ht hT hg (by with_unfolding_all rfl)
 unfold rCut at hr
 refine key _ hr fun pins s1 x d G1 H1 I1 st1 q1 k1=> ?_
 cases l with
 | none=>
  cases fl with
  | some _=>exact hl.elim
  | none=>
   rw [evalPart_none]
   refine wpAny_pure ?_
   cases u with
   | none=>
    cases fu with
    | some _=>exact hu.elim
    | none=>
     rw [evalPart_none]
     exact wpAny_pure ⟨none,none,H1,I1, .none, .none,lO q1 st1.gh k1⟩
   | some e=>
    cases fu with
    | none=>exact hu.elim
    | some k=>
     rw [evalPart_some]
     refine L2.thn (ME.thn hu I1 st1.gh (hS.step st1) hx k1) fun vu s2 hz_=> ?_
     obtain⟨y,d2,G2,H2,I2,r2,st2,q2,k2⟩:=hz_
     cases d2<;>try exact False.elim k2
     rename_i j
     unfold Rep at q2;subst q2
     obtain⟨t,rfl⟩:=r2
     exact⟨none,some j,H2,I2, .none, .int j t,lO (Seq.step q1 st2) st2.gh k2⟩
 | some e=>
  cases fl with
  | none=>exact hl.elim
  | some k=>
   cases u with
   | none=>
    cases fu with
    | some _=>exact hu.elim
    | none=>
     rw [evalPart_some]
     refine L2.thn (ME.thn hl I1 st1.gh (hS.step st1) hx k1) fun vu s2 hz_=> ?_
     obtain⟨y,d2,G2,H2,I2,r2,st2,q2,k2⟩:=hz_
     cases d2<;>try exact False.elim k2
     rename_i j
     unfold Rep at q2;subst q2
     obtain⟨t,rfl⟩:=r2
     rw [evalPart_none]
     exact wpAny_pure ⟨some j,none,H2,I2, .int j t, .none,lO (Seq.step q1 st2) st2.gh k2⟩
   | some e'=>
    cases fu with
    | none=>exact hu.elim
    | some k'=>
     rw [evalPart_some]
     refine L2.thn (ME.thn hl I1 st1.gh (hS.step st1) hx k1) fun vu s2 hz_=> ?_
     obtain⟨y,d2,G2,H2,I2,r2,st2,q2,k2⟩:=hz_
     cases d2<;>try exact False.elim k2
     rename_i j
     unfold Rep at q2;subst q2
     obtain⟨t,rfl⟩:=r2
     rw [evalPart_some]
     refine L2.thn (ME.thn hu I2 st2.gh ((hS.step st1).step st2) hx k2) fun vu s3 hz_=> ?_
     obtain⟨y3,d3,G3,H3,I3,r3,st3,q3,k3⟩:=hz_
     cases d3<;>try exact False.elim k3
     rename_i j'
     unfold Rep at q3;subst q3
     obtain⟨t',rfl⟩:=r3
     exact⟨some j,some j',H3,I3, .int j t, .int j' t',lO (Seq.step (Seq.step q1 st2) st3) st3.gh k3⟩
end
section
variable {X:Cx} {ad:Ad} {pins:List (Addr×Obj)} {s:Shared} {σ:St} {H G:Hp} {ρ:Rho} {Q:VK} {E:Nat→Hp→Prop} {pos p:Pos} {a b c:Expr} {f g h:F}
theorem RK.impE {K:PySem.W.Frag} {r:R} {E E':Nat→Hp→Prop} (h:RK K ad G H r Q E) (k: ∀ c H',E c H'→E' c H'):RK K ad G H r Q E':=by
 cases r with
 | ok d=>exact h
 | ow xs=>exact h
 | ex c=>exact fun G' H' st=>k c H' (h G' H' st)
 | bad=>exact h
def LK (X:Cx) (ad:Ad) (G H:Hp) (r:R) (Q:VK) (E:Nat→Hp→Prop):Prop:=match r with
 | .ok d=> ∀ v G' H',Step G H G' H'→Seq X ad G' H' d v→Q v H'
 | .ow xs=> ∀ p vs G' H',Step G H G' H'→H p=none→G' p=none→H' p=some (.lst vs)→Reps X.K ad G' xs vs→Q (.ref p) H'
 | .ex c=> ∀ G' H',Step G H G' H'→E c H'
 | .bad=>False
noncomputable def tL (X:Cx) (ad:Ad) (f:F):TE:=fun σ H Q=> ∃ G ρ E,Same G H∧SL X.K ad G H ρ σ∧XP X ad σ E∧LK X ad G H (f ρ) Q E
abbrev ML (X:Cx) (ad:Ad) (e:Expr) (f:F):Prop:=PE X e (tL X ad f)
theorem LK.rk {r:R} (h:LK X ad G H r Q E):RK X.K ad G H r Q E:=by
 cases r with
 | ok d=>exact fun v G' H' st q=>h v G' H' st (.inl q)
 | ow xs=>exact h
 | ex c=>exact h
 | bad=>exact h
theorem ME.ml (ha:ME X ad a f):ML X ad a f:=PE.imp ha fun σ H Q ⟨G,ρ,E,hG,hS,hx,hr⟩=>⟨G,ρ,E,hG,hS,hx,hr.rk⟩
theorem oP {i:Nat} {x:Str} (hN:X.N[i]? =some x) (hv:Vis X.env.scope x) (hd:(x==("__debug__":Str))=false) (hcd:(x==("__classdict__":Str))=false):ML X ad (.Name x pos) (rLook i):=by
 intro pins s σ H Q I ⟨G,ρ,E,hG,hS,hx,hr⟩
 unfold rLook at hr
 cases e:ρ[i]? with
 | none=>
  rw [e] at hr
  exact hr.elim
 | some sl=>
  rw [e] at hr
  cases sl with
  | no=>exact hr.elim
  | dc kvs=>exact hr.elim
  | sd kvs=>exact hr.elim
  | ow xs=>
   obtain⟨p,vs,h1,h2,h3,h4⟩:=hS.ow e
   exact bL hN hv hd hcd pins s σ H Q I ⟨.ref p,h1,hr (.ref p) G H (Step.refl hG) (.inr ⟨p,vs,xs,rfl,rfl,h2,h3,h4⟩)⟩
  | sh d=>
   obtain⟨w,h1,h2⟩:=hS.sh e
   exact bL hN hv hd hcd pins s σ H Q I ⟨w,h1,hr w G H (Step.refl hG) (.inl h2)⟩
theorem ML.lk (ha:ML X ad a f):MLk X ad a f:=by
 intro pins s σ H G ρ k Q E I hG hS hx hr
 cases e:f ρ with
 | ok d=>
  rw [e] at hr
  refine L2.thn (ha pins s σ H (fun v H1=> ∃ G1,Step G H G1 H1∧Seq X ad G1 H1 d v) I ⟨G,ρ,E,hG,hS,hx,by rw [e];exact fun v G1 H1 st q=>⟨G1,st,q⟩⟩) fun u s1 ⟨v,H1,I1,r1,G1,st,q⟩=> ?_
  exact⟨v,d,G1,H1,I1,r1,st,q,RK.step hr st⟩
 | ow xs=>
  rw [e] at hr
  refine L2.thn (ha pins s σ H (fun v H1=> ∃ G1,Step G H G1 H1∧Rep X.K ad G1 (.lst xs) v) I ⟨G,ρ,E,hG,hS,hx,by rw [e];exact fun p vs G1 H1 st n m e' q=>aS st n m e' q⟩) fun u s1 ⟨v,H1,I1,r1,G1,st,q⟩=> ?_
  exact⟨v, .lst xs,G1,H1,I1,r1,st, .inl q,RK.step hr st⟩
 | ex c=>
  rw [e] at hr
  refine L2.thn (ha pins s σ H (fun v H1=>False) I ⟨G,ρ,E,hG,hS,hx,by rw [e];exact hr⟩) fun u s1 ⟨v,H1,I1,r1,q⟩=>q.elim
 | bad=>
  rw [e] at hr
  exact False.elim hr
theorem kH {k:D→R} {σ:St} {H:Hp} {Q Q':VK} (hG:Same G H) (hS:SL X.K ad G H ρ σ) (hx:XP X ad σ E) (hr:RK X.K ad G H ((f ρ).bind k) Q E)
  (q: ∀ v d G1 H1,Step G H G1 H1→Seq X ad G1 H1 d v→RK X.K ad G1 H1 (k d) Q E→Q' v H1):tL X ad f σ H Q':=by
 refine⟨G,ρ,E,hG,hS,hx, ?_⟩
 cases e:f ρ with
 | ok d=>
  rw [e] at hr
  exact fun v G1 H1 st r=>q v d G1 H1 st r (RK.step hr st)
 | ow xs=>
  rw [e] at hr
  intro p vs G1 H1 st n m e' r
  obtain⟨G2,st2,r2⟩:=aS (X:=X) (ad:=ad) st n m e' r
  exact q _ _ G2 H1 st2 (.inl r2) (RK.step hr st2)
 | ex c=>
  rw [e] at hr
  exact hr
 | bad=>
  rw [e] at hr
  exact hr
theorem eE {k:List D→R}:rAll [f] ρ k=(f ρ).bind fun x=>k [x]:=by
 unfold rAll args
 cases f ρ<;>rfl
def BOp (X:Cx) (ad:Ad) (fv:Value) (r:Fn):Prop:=
 ∀ (pins:List (Addr×Obj)) (s:Shared) (σ:St) (H G:Hp) (x:D) (v:V) (u:Value) (Q:VK) (E:Nat→Hp→Prop),Inv X pins σ H s→Same G H→Seq X ad G H x v→RelV v u→RK X.K ad G H (r [x]) Q E→
  wpAny (model X.prog X.w) X.A (call fv [u]) (EP X pins σ Q) X.xe s
theorem b9 {x:Str} {id:String} {r:Fn} (ho:BOp X ad (.builtin id) r) (hg:L2.Gl X x) (hm:X.mg x=none) (hv:bootBuiltins x=some (.builtin id)) (ha:ML X ad a f) (hn:x≠"__name__") (hdb:(x==("__debug__":Str))=false)
  (he:starEach [a] X.env=(false,eval a X.env)::starEach [] X.env):ME X ad (.Call (.Name x p) [a] [] pos) (rCall r [f]):=by
 intro pins s σ H Q I ⟨G,ρ,E,hG,hS,hx,hr⟩
 refine wpAny_Call_Name_kw (bM I hg hm hv ?_ hn hdb)
 unfold rCall at hr
 rw [eE] at hr
 refine PyProof.Rows.callWith_builtin1 (L2.thn (aR ha bN he pos pins s σ H (fun vs H1=> ∃ v d G1,vs=[v]∧Step G H G1 H1∧Seq X ad G1 H1 d v∧RK X.K ad G1 H1 (r [d]) Q E) I ?_) fun us s1 ⟨vs,H1,I1,r1,v,d,G1,e1,st,q,k⟩=> ?_) he rfl
 ·exact kH hG hS hx hr fun v d G1 H1 st q k=>⟨v,d,G1,rfl,st,q,k⟩
 ·subst e1
  obtain⟨u,rfl,ru⟩:=vals1 r1
  exact ho pins s1 σ H1 G1 d v u Q E I1 st.gh q ru k
theorem oQ {x:Str} {T:String} {r:Fn} (ho:BOp X ad (.type T) r) (hg:L2.Gl X x) (hm:X.mg x=none) (hv:bootBuiltins x=some (.type T)) (ha:ML X ad a f) (hn:x≠"__name__") (hdb:(x==("__debug__":Str))=false)
  (he:starEach [a] X.env=(false,eval a X.env)::starEach [] X.env):ME X ad (.Call (.Name x p) [a] [] pos) (rCall r [f]):=by
 intro pins s σ H Q I ⟨G,ρ,E,hG,hS,hx,hr⟩
 refine wpAny_Call_Name_kw (bM I hg hm hv ?_ hn hdb)
 unfold rCall at hr
 rw [eE] at hr
 refine PyProof.Rows.callWith_type1 (L2.thn (aR ha bN he pos pins s σ H (fun vs H1=> ∃ v d G1,vs=[v]∧Step G H G1 H1∧Seq X ad G1 H1 d v∧RK X.K ad G1 H1 (r [d]) Q E) I ?_) fun us s1 ⟨vs,H1,I1,r1,v,d,G1,e1,st,q,k⟩=> ?_) he rfl
 ·exact kH hG hS hx hr fun v d G1 H1 st q k=>⟨v,d,G1,rfl,st,q,k⟩
 ·subst e1
  obtain⟨u,rfl,ru⟩:=vals1 r1
  exact ho pins s1 σ H1 G1 d v u Q E I1 st.gh q ru k
theorem w6:BOp X ad (.builtin "len") dLen:=by
 intro pins s σ H G x v u Q E I hG q ru hr
 have hr':RK X.K ad G H (match items x with | some xs=> .ok (.int xs.length) | none=> .bad) Q E:=hr
 cases e:items x with
 | none=>rw [e] at hr';exact hr'.elim
 | some ds=>
  rw [e] at hr'
  obtain⟨p,vs,rfl,hq,rq⟩:=q.items hG e
  have hq':SqL X.K H p vs∨SqT X.K H p vs:=hq.elim (fun z=> .inr z.2) fun z=> .inl z.2
  refine iN pins s σ H [.ref p] [u] Q I (.cons ru .nil) ⟨p,vs,rfl,hq', ?_⟩
  rw [rq.length]
  exact hr'.ok_now hG aD
theorem w8:BOp X ad (.type "int") dInt:=by
 intro pins s σ H G x v u Q E I hG q ru hr
 cases x<;>try exact False.elim hr
 ·rcases q with q | ⟨_,_,_,z,_⟩
  ·unfold Rep at q;subst q
   exact iH pins s σ H _ [u] Q I (.cons ru .nil) (.inr ⟨_,rfl,hr.ok_now hG aD⟩)
  ·cases z
 ·rcases q with q | ⟨_,_,_,z,_⟩
  ·unfold Rep at q;subst q
   exact iH pins s σ H _ [u] Q I (.cons ru .nil) (.inl ⟨_,rfl,hr.ok_now hG aD⟩)
  ·cases z
theorem w9:BOp X ad (.builtin "abs") dAbs:=by
 intro pins s σ H G x v u Q E I hG q ru hr
 cases x<;>try exact False.elim hr
 rcases q with q | ⟨_,_,_,z,_⟩
 ·unfold Rep at q;subst q
  exact sK pins s σ H _ [u] Q I (.cons ru .nil) ⟨_,rfl,hr.ok_now hG aD⟩
 ·cases z
theorem sS:BOp X ad (.type "list") dList:=by
 intro pins s σ H G x v u Q E I hG q ru hr
 have hr':RK X.K ad G H (match items x with | some xs=> .ow xs | none=> .bad) Q E:=hr
 cases e:items x with
 | none=>rw [e] at hr';exact hr'.elim
 | some ds=>
  rw [e] at hr'
  obtain⟨p,vs,rfl,hq,rq⟩:=q.items hG e
  have hq':SqL X.K H p vs∨SqT X.K H p vs:=hq.elim (fun z=> .inr z.2) fun z=> .inl z.2
  exact iO pins s σ H [.ref p] [u] Q I (.cons ru .nil) ⟨p,vs,rfl,hq',fun l hl=>hr'.ow_new hG rq hl⟩
theorem oR:BOp X ad (.type "tuple") dTuple:=by
 intro pins s σ H G x v u Q E I hG q ru hr
 have hr':RK X.K ad G H (match items x with | some xs=> .ok (.tup xs) | none=> .bad) Q E:=hr
 cases e:items x with
 | none=>rw [e] at hr';exact hr'.elim
 | some ds=>
  rw [e] at hr'
  obtain⟨p,vs,rfl,hq,rq⟩:=q.items hG e
  rcases hq with ⟨e2,hq⟩ | ⟨e2,hq⟩
  ·refine cZ pins s σ H [.ref p] [u] Q I (.cons ru .nil) ⟨p,vs,rfl, .inr ⟨hq,hr'.ok_now hG ?_⟩⟩
   rcases q with q | ⟨_,_,_,z,_⟩
   ·rw [e2] at q;exact q
   ·rw [e2] at z;cases z
  ·exact cZ pins s σ H [.ref p] [u] Q I (.cons ru .nil) ⟨p,vs,rfl, .inl ⟨hq,fun l hl=>hr'.tup_new hG rq hl⟩⟩
theorem cD: ∀ {ds:List D} {ns:List Int} {vs:List V},dInts ds=some ns→Reps X.K ad G ds vs→vs=ns.map V.int
 | [],ns,vs,e,r=>by
  cases e
  unfold Reps at r
  exact r
 | d::ds,ns,vs,e,r=>by
  cases d<;>try (unfold dInts at e;cases e)
  rename_i i
  unfold dInts at e
  obtain⟨ms,e1,e2⟩:=zMd e
  subst e2
  unfold Reps at r
  obtain⟨v,r',rfl,r1,r2⟩:=r
  unfold Rep at r1
  subst r1
  rw [cD e1 r2]
  rfl
theorem dN: ∀ {ds:List D} {ns:List Bool} {vs:List V},dBools ds=some ns→Reps X.K ad G ds vs→vs=ns.map V.bl
 | [],ns,vs,e,r=>by
  cases e
  unfold Reps at r
  exact r
 | d::ds,ns,vs,e,r=>by
  cases d<;>try (unfold dBools at e;cases e)
  rename_i i
  unfold dBools at e
  obtain⟨ms,e1,e2⟩:=zMd e
  subst e2
  unfold Reps at r
  obtain⟨v,r',rfl,r1,r2⟩:=r
  unfold Rep at r1
  subst r1
  rw [dN e1 r2]
  rfl
theorem bT {A:Around} (hh:A.handled=none) (I:Inv X pins σ H s) {p:Addr} {vs:List V} (hq:SqL X.K H p vs∨SqT X.K H p vs) {Ex:Value→Shared→Prop} {Q':Value→Shared→Prop}
  (k: ∀ (its:List Value) (s2:Shared) (I':Addr) (fp wr:List Addr) (Stt:Nat→Heap→Prop),Vals vs its→Walks X.prog X.w A I' fp wr its.length (fun i v=>its[i]? =some v) Stt→Stt 0 s2.heap→(∀ b∈fp,b<s2.heap.objs.size)→s2.os=s.os→s2.gens=s.gens→s2.drawn=s.drawn→
   (∀ b o,s.heap.get? b=some o→b∉wr)→(∀ b o,s.heap.get? b=some o→s2.heap.get? b=some o)→Q' (.ref I') s2):wpAny (model X.prog X.w) A (pyIter (.ref p)) Q' Ex s:=by
 rcases hq with hq | hq
 ·obtain⟨its,rv,pl,_⟩:=I.list hq
  have hlt:p<s.heap.objs.size:=by obtain⟨o,n,e,_⟩:=pl;exact Heap.lt_size e
  refine wpAny_pyIter_list pl.isList (k its _ s.heap.objs.size [s.heap.objs.size,p] [s.heap.objs.size] (fun i h=>h.IsListIter s.heap.objs.size p i∧h.IsList p its.toArray) rv ?_ (And.intro ⟨_,Heap.get?_push_size _ rfl,rfl,rfl⟩ ?_) ?_ rfl rfl rfl ?_ ?_)
  ·have W:=Walks.list (prog:=X.prog) (w:=X.w) hh s.heap.objs.size p (Nat.ne_of_lt hlt) its.toArray
   simpa using W
  ·obtain⟨o,n,e,c,d⟩:=pl
   exact⟨o,Heap.get?_push_of_some _ e,c,n,d.2⟩
  ·intro b hb
   rcases List.mem_cons.mp hb with rfl | hb
   ·rw [Heap.size_push];exact Nat.lt_succ_self _
   ·have:b=p:=by simpa using hb
    subst this
    rw [Heap.size_push];exact Nat.lt_succ_of_lt hlt
  ·intro b o e hb
   have:b=s.heap.objs.size:=by simpa using hb
   subst this
   exact absurd (Heap.lt_size e) (Nat.lt_irrefl _)
  ·exact fun b o e=>Heap.get?_push_of_some _ e
 ·obtain⟨its,rv,pl,_⟩:=I.tuple hq
  have hlt:p<s.heap.objs.size:=pl.lt
  refine wpAny_pyIter_tuple (show s.heap.IsTuple p its.toArray from pl) (k its _ s.heap.objs.size [s.heap.objs.size,p] [s.heap.objs.size] (fun i h=>h.IsTupleIter s.heap.objs.size p i∧h.IsTuple p its.toArray) rv ?_ (And.intro ⟨_,Heap.get?_push_size _ rfl,rfl,rfl⟩ ?_) ?_ rfl rfl rfl ?_ ?_)
  ·have W:=Walks.tuple (prog:=X.prog) (w:=X.w) hh s.heap.objs.size p (Nat.ne_of_lt hlt) its.toArray
   simpa using W
  ·obtain⟨o,e,c⟩:=pl
   exact⟨o,Heap.get?_push_of_some _ e,c⟩
  ·intro b hb
   rcases List.mem_cons.mp hb with rfl | hb
   ·rw [Heap.size_push];exact Nat.lt_succ_self _
   ·have:b=p:=by simpa using hb
    subst this
    rw [Heap.size_push];exact Nat.lt_succ_of_lt hlt
  ·intro b o e hb
   have:b=s.heap.objs.size:=by simpa using hb
   subst this
   exact absurd (Heap.lt_size e) (Nat.lt_irrefl _)
  ·exact fun b o e=>Heap.get?_push_of_some _ e
end
section
variable {X:Cx} {ad:Ad} {pins:List (Addr×Obj)} {s:Shared} {σ:St} {H G:Hp} {ρ:Rho} {Q:VK} {E:Nat→Hp→Prop} {pos p:Pos} {a b c:Expr} {f g h:F}
theorem _root_.L2.Inv.moved {wr:List Addr} {s2 s':Shared} (I:Inv X pins σ H s) (k1: ∀ b o,s.heap.get? b=some o→s2.heap.get? b=some o) (k2: ∀ b o,s.heap.get? b=some o→b∉wr) (e1:s2.os=s.os) (e2:s2.gens=s.gens) (e3:s2.drawn=s.drawn)
  (m:Moved wr (fun a b=>b=a) s2 s'):Inv X pins σ H s':=by
 have e:s'={ s with heap:=s'.heap,toks:=s'.toks }:=by
  obtain⟨h',g',d',t',o'⟩:=s'
  obtain⟨m1,m2,m3,m4,m5⟩:=m
  simp only at m2 m3 m4 ⊢
  rw [m2,m3,m4,e1,e2,e3]
 rw [e]
 exact I.kept fun b o q=>m.heap b o (k2 b o q) (k1 b o q)
theorem fL {ns:List Int} {its:List Value} (r:Vals (ns.map V.int) its) {i:Nat} {v:Value} (e:its[i]? =some v): ∃ t,v= .int (ns.getD i 0) t:=by
 have hl:=r.length
 have hi:i<its.length:=(List.getElem?_eq_some_iff.mp e).1
 have hi':i<ns.length:=by rw [List.length_map] at hl;omega
 have e1:(ns.map V.int)[i]? =some (V.int ns[i]):=by simp [hi']
 obtain⟨u,e2,t,e3⟩:=r.get e1
 rw [e] at e2
 cases e2
 refine⟨t, ?_⟩
 rw [e3]
 simp [List.getD,hi']
theorem xA (hh:X.A.handled=none):BOp X ad (.builtin "sum") dSum:=by
 intro pins s σ H G x v u Q E I hG q ru hr
 have hr':RK X.K ad G H (match(items x).bind dInts with | some xs=> .ok (.int xs.sum) | none=> .bad) Q E:=hr
 cases e:items x with
 | none=>rw [e] at hr';exact hr'.elim
 | some ds=>
  rw [e] at hr'
  have hr2:RK X.K ad G H (match dInts ds with | some xs=> .ok (.int xs.sum) | none=> .bad) Q E:=hr'
  cases e2:dInts ds with
  | none=>rw [e2] at hr2;exact hr2.elim
  | some ns=>
   rw [e2] at hr2
   obtain⟨p,vs,rfl,hq,rq⟩:=q.items hG e
   have hq':SqL X.K H p vs∨SqT X.K H p vs:=hq.elim (fun z=> .inr z.2) fun z=> .inl z.2
   cases (show u=Value.ref p from ru)
   have ev:=cD e2 rq
   subst ev
   refine call_sum_walkAnyS (bT (A:=X.A.in1) hh I hq' fun its s2 I' fp wr Stt rv W st hfp h1 h2 h3 h4 h5=> ?_)
   refine⟨I',fp,wr,_,its.length,_,_,fun i=>ns.getD i 0,rfl,W.toS,st,hfp,fun i v e=>fL rv e,fun s' t' m=> ?_⟩
   refine⟨.int ns.sum,H,I.moved h5 h4 h1 h2 h3 m,⟨t', ?_⟩,hr2.ok_now hG aD⟩
   rw [preSum_getD, ←rv.length,List.length_map,List.take_length]
theorem aA6 {ns:List Bool} {its:List Value} (r:Vals (ns.map V.bl) its) {i:Nat} {v:Value} (e:its[i]? =some v):v= .bool (ns.getD i false):=by
 have hl:=r.length
 have hi:i<its.length:=(List.getElem?_eq_some_iff.mp e).1
 have hi':i<ns.length:=by rw [List.length_map] at hl;omega
 have e1:(ns.map V.bl)[i]? =some (V.bl ns[i]):=by simp [hi']
 obtain⟨u,e2,e3⟩:=r.get e1
 rw [e] at e2
 cases e2
 have e4:v= .bool ns[i]:=e3
 rw [e4]
 simp [List.getD,hi']
theorem oS (ns:List Bool):(List.range ns.length).all (fun i=>ns.getD i false)=ns.all id:=by
 induction ns with
 | nil=>rfl
 | cons x xs ih=>
  rw [List.length_cons,List.range_succ_eq_map,List.all_cons,List.all_map,List.all_cons]
  have:(List.range xs.length).all ((fun i=>(x::xs).getD i false) ∘ Nat.succ)=xs.all id:=by
   rw [←ih]
   rfl
  rw [this]
  rfl
theorem oT (ns:List Bool):(List.range ns.length).any (fun i=>ns.getD i false)=ns.any id:=by
 induction ns with
 | nil=>rfl
 | cons x xs ih=>
  rw [List.length_cons,List.range_succ_eq_map,List.any_cons,List.any_map,List.any_cons]
  have:(List.range xs.length).any ((fun i=>(x::xs).getD i false) ∘ Nat.succ)=xs.any id:=by
   rw [←ih]
   rfl
  rw [this]
  rfl
theorem xB (hh:X.A.handled=none):BOp X ad (.builtin "all") dAll:=by
 intro pins s σ H G x v u Q E I hG q ru hr
 have hr':RK X.K ad G H (match(items x).bind dBools with | some xs=> .ok (.bl (xs.all id)) | none=> .bad) Q E:=hr
 cases e:items x with
 | none=>rw [e] at hr';exact hr'.elim
 | some ds=>
  rw [e] at hr'
  have hr2:RK X.K ad G H (match dBools ds with | some xs=> .ok (.bl (xs.all id)) | none=> .bad) Q E:=hr'
  cases e2:dBools ds with
  | none=>rw [e2] at hr2;exact hr2.elim
  | some ns=>
   rw [e2] at hr2
   obtain⟨p,vs,rfl,hq,rq⟩:=q.items hG e
   have hq':SqL X.K H p vs∨SqT X.K H p vs:=hq.elim (fun z=> .inr z.2) fun z=> .inl z.2
   cases (show u=Value.ref p from ru)
   have ev:=dN e2 rq
   subst ev
   refine call_all_walkS (bT (A:=X.A.in1) hh I hq' fun its s2 I' fp wr Stt rv W st hfp h1 h2 h3 h4 h5=> ?_)
   refine⟨I',fp,wr,_,its.length,_,_,fun i=>ns.getD i false,rfl,W.toS,st, ?_,fun s' m=> ?_⟩
   ·intro i v s' Q' E' e3 hQ
    rw [aA6 rv e3]
    exact wpAny_truthy_bool hQ
   ·refine⟨.bl _,H,I.moved h5 h4 h1 h2 h3 m, ?_,hr2.ok_now hG aK⟩
    rw [←rv.length,List.length_map,oS]
    rfl
theorem xC (hh:X.A.handled=none):BOp X ad (.builtin "any") dAny:=by
 intro pins s σ H G x v u Q E I hG q ru hr
 have hr':RK X.K ad G H (match(items x).bind dBools with | some xs=> .ok (.bl (xs.any id)) | none=> .bad) Q E:=hr
 cases e:items x with
 | none=>rw [e] at hr';exact hr'.elim
 | some ds=>
  rw [e] at hr'
  have hr2:RK X.K ad G H (match dBools ds with | some xs=> .ok (.bl (xs.any id)) | none=> .bad) Q E:=hr'
  cases e2:dBools ds with
  | none=>rw [e2] at hr2;exact hr2.elim
  | some ns=>
   rw [e2] at hr2
   obtain⟨p,vs,rfl,hq,rq⟩:=q.items hG e
   have hq':SqL X.K H p vs∨SqT X.K H p vs:=hq.elim (fun z=> .inr z.2) fun z=> .inl z.2
   cases (show u=Value.ref p from ru)
   have ev:=dN e2 rq
   subst ev
   refine call_any_walkS (bT (A:=X.A.in1) hh I hq' fun its s2 I' fp wr Stt rv W st hfp h1 h2 h3 h4 h5=> ?_)
   refine⟨I',fp,wr,_,its.length,_,_,fun i=>ns.getD i false,rfl,W.toS,st, ?_,fun s' m=> ?_⟩
   ·intro i v s' Q' E' e3 hQ
    rw [aA6 rv e3]
    exact wpAny_truthy_bool hQ
   ·refine⟨.bl _,H,I.moved h5 h4 h1 h2 h3 m, ?_,hr2.ok_now hG aK⟩
    rw [←rv.length,List.length_map,oT]
    rfl
theorem len2 {α:Type} {ds:List α} (h:ds.length=2): ∃ d e,ds=[d,e]:=by
 cases ds with
 | nil=>cases h
 | cons d r=>
  cases r with
  | nil=>cases h
  | cons e r=>
   cases r with
   | nil=>exact⟨d,e,rfl⟩
   | cons _ _=>simp at h
theorem fM {x:Str} {id:String} {r:Fn} {op:Int→Int→Int} (hd: ∀ i j,r [.int i, .int j]= .ok (.int (op i j))) (hb0: ∀ x y Q E G H,RK X.K ad G H (r [x,y]) Q E→ ∃ i j,x= .int i∧y= .int j)
  (ho:CallR X (.builtin id) (fun xs H Q=> ∃ i j,xs=[.int i, .int j]∧Q (.int (op i j)) H)) (hg:L2.Gl X x) (hm:X.mg x=none) (hv:bootBuiltins x=some (.builtin id)) (ha:ME X ad a f) (hb:ME X ad b g) (hn:x≠"__name__")
  (hdb:(x==("__debug__":Str))=false) (he:starEach [a,b] X.env=(false,eval a X.env)::starEach [b] X.env) (he2:starEach [b] X.env=(false,eval b X.env)::starEach [] X.env):ME X ad (.Call (.Name x p) [a,b] [] pos) (rCall r [f,g]):=by
 refine PE.imp (sL (id:=id) ho hg hm hv (kF ha (kF hb vJ he2) he) hn hdb he (by rw [he2];rfl)) ?_
 rintro σ H Q ⟨G,ρ,E,hG,hS,hx,hr⟩
 refine kG hG hS hx hr fun vs ds G1 H1 st rq hl k=> ?_
 obtain⟨d,e,rfl⟩:=len2 hl
 obtain⟨i,j,rfl,rfl⟩:=hb0 d e Q E G1 H1 k
 unfold Reps at rq
 obtain⟨v,r',rfl,r1,r2⟩:=rq
 unfold Reps at r2
 obtain⟨v',r'',rfl,r3,r4⟩:=r2
 unfold Reps at r4
 subst r4
 unfold Rep at r1 r3
 subst r1;subst r3
 rw [hd] at k
 exact⟨i,j,rfl,k.ok_now st.gh aD⟩
noncomputable def spOf (K:PySem.W.Frag) (ad:Ad) (n:Nat) (F:Fn):Sp:=fun vs H Q E=> ∃ G ds,Same G H∧Reps K ad G ds vs∧ds.length=n∧RK K ad G H (F ds) Q (fun c H'=>E (.ref (ad.cls c)) none H')
theorem oU {CX:CXT} {k:Nat} {f:Addr} {fd:FuncData} {ps:List Str} {sp:Sp} {E:XK} {us:List Value} {vs:List V} (F:FnOk X.prog X.w X.K X.mg X.base CX k f fd ps sp) (hr:Room k X.A) (hb:Binds X.K fd ps [])
  (I:Inv X pins σ H s) (r:Vals vs us) (h:sp vs H Q E) (hx: ∀ e s',CX X.stack H s E e s'→X.xe e s'):wpAny (model X.prog X.w) X.A (call (.ref f) us) (EP X pins σ Q) X.xe s:=by
 have hl:(us++[]).length=ps.length:=by rw [List.append_nil, ←r.length];exact F.len _ _ _ _ h
 refine wpAny_call (codeAny_mono (F.run X.A X.stack s H ⟨us,[]⟩ us vs Q E hr I.env0 (by have:=hb s us I.kIn hl;rwa [List.append_nil] at this) r h) fun r s' hq=> ?_)
 cases r with
 | error e=>exact hx e s' hq
 | ok fl=>
  cases fl with
  | ret u=>exact I.after hq
  | next=>exact False.elim hq
  | brk=>exact False.elim hq
  | cont=>exact False.elim hq
structure FnGood (X:Cx) (ad:Ad) (k:Nat) (x:Str) (n:Nat) (F:Fn) (f:Addr):Prop where
 mg:X.mg x=some (.ref f)
 kp:PySem.W.keepIn X.K (.ref f)=true
 ok: ∃ fd ps,FnOk X.prog X.w X.K X.mg X.base (CXe X.prog X.w) k f fd ps (spOf X.K ad n F)∧Binds X.K fd ps []
theorem oV {k n:Nat} {x:Str} {F:Fn} {f:Addr} {us:List Value} {vs:List V} {ds:List D} (T:FnGood X ad k x n F f) (hr:Room k X.A) (I:Inv X pins σ H s) (hG:Same G H) (hx:XP X ad σ E) (r:Vals vs us) (rq:Reps X.K ad G ds vs) (hl:ds.length=n)
  (h:RK X.K ad G H (F ds) Q E):wpAny (model X.prog X.w) X.A (call (.ref f) us) (EP X pins σ Q) X.xe s:=by
 obtain⟨fd,ps,F',hb⟩:=T.ok
 exact oU (E:=xk ad E) F' hr hb I r ⟨G,ds,hG,rq,hl,h.impE fun c H' e=>⟨c,rfl,e⟩⟩ fun e s' hc=>hx pins H s e s' I hc
theorem xD {k n:Nat} {x:Str} {F:Fn} {f:Addr} {es:List Expr} {fs:List SK.F} (T:FnGood X ad k x n F f) (hr:Room k X.A) (hg:L2.Gl X x) (hdb:(x==("__debug__":Str))=false) (ha:MA X ad (a::es) fs) (hn:fs.length=n)
  (he:starEach (a::es) X.env=(false,eval a X.env)::starEach es X.env) (hpl:(backTo pos (starEach es X.env)).any (·.1)=false):ME X ad (.Call (.Name x p) (a::es) [] pos) (rCall F fs):=by
 intro pins s σ H Q I ⟨G,ρ,E,hG,hS,hx,hr'⟩
 refine wpAny_Call_Name_kw (gB I hg T.mg ?_ hdb)
 refine PySem.W.callWith_K (h₀:=X.base) I.ok.mod.kin T.kp (L2.thn (ha pos pins s σ H (fun vs H1=> ∃ ds G1,Step G H G1 H1∧Reps X.K ad G1 ds vs∧ds.length=fs.length∧RK X.K ad G1 H1 (F ds) Q E) I
  (kG hG hS hx hr' fun vs ds G1 H1 st rq hl k=>⟨ds,G1,st,rq,hl,k⟩)) fun us s1 ⟨vs,H1,I1,r,ds,G1,st,rq,hl,k⟩=>⟨I1.kIn, ?_⟩) he hpl
 exact oV T hr I1 st.gh hx r rq (hl.trans hn) k
structure FnAt (X:Cx) (ad:Ad) (k:Nat) (n:Nat) (F:Fn) (f:Addr):Prop where
 kp:PySem.W.keepIn X.K (.ref f)=true
 ok: ∃ fd ps,FnOk X.prog X.w X.K X.mg X.base (CXe X.prog X.w) k f fd ps (spOf X.K ad n F)∧Binds X.K fd ps []
theorem xE {k n:Nat} {F:Fn} {f:Addr} {us:List Value} {vs:List V} {ds:List D} (T:FnAt X ad k n F f) (hr:Room k X.A) (I:Inv X pins σ H s) (hG:Same G H) (hx:XP X ad σ E) (r:Vals vs us) (rq:Reps X.K ad G ds vs) (hl:ds.length=n)
  (h:RK X.K ad G H (F ds) Q E):wpAny (model X.prog X.w) X.A (call (.ref f) us) (EP X pins σ Q) X.xe s:=by
 obtain⟨fd,ps,F',hb⟩:=T.ok
 exact oU (E:=xk ad E) F' hr hb I r ⟨G,ds,hG,rq,hl,h.impE fun c H' e=>⟨c,rfl,e⟩⟩ fun e s' hc=>hx pins H s e s' I hc
theorem lP {tab:List (Nat×Fn)} {e:Expr} {g:SK.F} {es:List Expr} {fs:List SK.F} (T: ∀ j n F,tab[j]? =some (n,F)→ ∃ r,FnAt X ad r n F (ad.fnA j)∧Room r X.A) (hg:ME X ad e g) (ha:MA X ad (a::es) fs)
  (he:starEach (a::es) X.env=(false,eval a X.env)::starEach es X.env) (hpl:(backTo pos (starEach es X.env)).any (·.1)=false)
  (hev:eval (.Call e (a::es) [] pos) X.env=(do callWith pos (←eval e X.env) [] (backTo pos (starEach (a::es) X.env)) (backToKw pos (keywordEach [] X.env)))):ME X ad (.Call e (a::es) [] pos) (rCallV tab g fs):=by
 intro pins s σ H Q I ⟨G,ρ,E,hG,hS,hx,hr⟩
 refine Call_ (L2.thn (hg.thn I hG hS hx hr) fun u s1 ⟨v,d,G1,H1,I1,r1,st,q,k1⟩=> ?_) hev
 cases d<;>try exact False.elim k1
 rename_i j
 have k2:RK X.K ad G1 H1 (match tab[j]? with | some (n,f)=>if n=fs.length then rAll fs ρ f else .bad | none=> .bad) Q E:=k1
 cases e1:tab[j]? with
 | none=>rw [e1] at k2;exact k2.elim
 | some nf=>
  obtain⟨n,F⟩:=nf
  rw [e1] at k2
  have k3:RK X.K ad G1 H1 (if n=fs.length then rAll fs ρ F else .bad) Q E:=k2
  by_cases hn:n=fs.length
  ·rw [if_pos hn] at k3
   unfold Rep at q
   subst q
   cases (show u=Value.ref (ad.fnA j) from r1)
   obtain⟨r,FA,hro⟩:=T j n F e1
   refine PySem.W.callWith_K (h₀:=X.base) I1.ok.mod.kin FA.kp (L2.thn (ha pos pins s1 σ H1 (fun vs H2=> ∃ ds G2,Step G1 H1 G2 H2∧Reps X.K ad G2 ds vs∧ds.length=fs.length∧RK X.K ad G2 H2 (F ds) Q E) I1
    (kG st.gh (hS.step st) hx k3 fun vs ds G2 H2 st2 rq hl k=>⟨ds,G2,st2,rq,hl,k⟩)) fun us s2 ⟨vs,H2,I2,r2,ds,G2,st2,rq,hl,k⟩=>⟨I2.kIn, ?_⟩) he hpl
   exact xE FA hro I2 st2.gh hx r2 rq (hl.trans hn.symm) k
  ·rw [if_neg hn] at k3
   exact k3.elim
end
noncomputable def clOf (cells:List (Str×Addr)):List (Str×NameKind)→List (Str×Addr)→List (Str×Addr)
 | [],acc=>acc
 | (x,k)::r,acc=>clOf cells r (if k== .free then(x,(cells.lookup x).getD 0)::acc else acc)
theorem gL {cells:List (Str×Addr)}: ∀ {ns:List (Str×NameKind)} {acc:List (Str×Addr)} {x:Str} {c:Addr},(clOf cells ns acc).lookup x=some c→(∃ k,(x,k)∈ns∧k= .free∧c=(cells.lookup x).getD 0)∨acc.lookup x=some c
 | [],acc,x,c,h=> .inr h
 | (y,k)::r,acc,x,c,h=>by
  rcases gL (ns:=r) h with ⟨k',h1,h2,h3⟩ | h
  ·exact .inl ⟨k', .tail _ h1,h2,h3⟩
  ·by_cases hk:(k==NameKind.free)=true
   ·rw [if_pos hk,List.lookup_cons] at h
    cases hx:x==y with
    | true=>
     rw [hx] at h
     have e:x=y:=eq_of_beq hx
     subst e
     exact .inl ⟨k, .head _,eq_of_beq hk,(Option.some.inj h).symm⟩
    | false=>
     rw [hx] at h
     exact .inr h
   ·rw [if_neg hk] at h
    exact .inr h
theorem lQ {cells:List (Str×Addr)}: ∀ {ns:List (Str×NameKind)} {acc:List (Str×Addr)} {x:Str},(acc.lookup x).isSome=true→((clOf cells ns acc).lookup x).isSome=true
 | [],_,_,h=>h
 | (y,k)::r,acc,x,h=>by
  refine lQ (ns:=r) ?_
  by_cases hk:(k==NameKind.free)=true
  ·rw [if_pos hk,List.lookup_cons]
   cases x==y with
   | true=>rfl
   | false=>exact h
  ·rw [if_neg hk]
   exact h
theorem gM {cells:List (Str×Addr)}: ∀ {ns:List (Str×NameKind)} {acc:List (Str×Addr)} {x:Str},(x,NameKind.free)∈ns→((clOf cells ns acc).lookup x).isSome=true
 | [],_,_,h=>nomatch h
 | (y,k)::r,acc,x,h=>by
  rcases List.mem_cons.mp h with e | h
  ·cases e
   refine lQ (ns:=r) ?_
   rw [if_pos (by rfl),List.lookup_cons,beq_self_eq_true]
   rfl
  ·exact gM (ns:=r) h
theorem fN {sc:Scope} {env:PySem.Env} (h: ∀ x,(x,NameKind.free)∈sc.names→(env.cells.lookup x).isSome=true):closureFor sc env=pure (clOf env.cells sc.names []):=by
 have go: ∀ (ns:List (Str×NameKind)) (acc:List (Str×Addr)),(∀ x,(x,NameKind.free)∈ns→(env.cells.lookup x).isSome=true)→
   (forIn ns acc (fun(p:Str×NameKind) (cs:List (Str×Addr))=>if p.2== .free then do let c←cellOf env p.1;pure (ForInStep.yield ((p.1,c)::cs)) else pure (ForInStep.yield cs)):Sem (List (Str×Addr)))=pure (clOf env.cells ns acc):=by
  intro ns
  induction ns with
  | nil=>intro acc _;rfl
  | cons p r ih=>
   intro acc hp
   obtain⟨x,k⟩:=p
   rw [List.forIn_cons]
   by_cases hk:(k==NameKind.free)=true
   ·have ek:k= .free:=eq_of_beq hk
    subst ek
    obtain⟨c,hc⟩:=Option.isSome_iff_exists.mp (hp x (.head _))
    have e1:cellOf env x=pure c:=by unfold cellOf;rw [hc]
    have e2:=ih ((x,c)::acc) fun y hy=>hp y (.tail _ hy)
    simp only [beq_self_eq_true,if_true,e1]
    show(forIn r ((x,c)::acc) _:Sem (List (Str×Addr)))=_
    rw [e2]
    show pure _=pure (clOf env.cells r (if(NameKind.free==NameKind.free)=true then(x,(env.cells.lookup x).getD 0)::acc else acc))
    rw [if_pos (by rfl),hc]
    rfl
   ·simp only [hk]
    show(forIn r acc _:Sem (List (Str×Addr)))=_
    rw [ih acc fun y hy=>hp y (.tail _ hy)]
    show pure _=pure (clOf env.cells r (if(k==NameKind.free)=true then _ else acc))
    rw [if_neg hk]
 have e:=go sc.names [] h
 have e2:closureFor sc env=((forIn sc.names ([]:List (Str×Addr)) (fun(p:Str×NameKind) (cs:List (Str×Addr))=>if p.2== .free then do let c←cellOf env p.1;pure (ForInStep.yield ((p.1,c)::cs)) else pure (ForInStep.yield cs)):Sem (List (Str×Addr))) >>= fun cs=>pure cs):=rfl
 rw [e2,e]
 rfl
theorem aO {env:PySem.Env} {x:Str}: ∀ {names:List (Str×NameKind)},(names.map fun(n,k)=>if(k==NameKind.free&&env.scope.kind== .function&&env.kindOf n==some .cell) then(n,NameKind.cell) else(n,k)).lookup x=
  (names.lookup x).map fun k=>if(k==NameKind.free&&env.scope.kind== .function&&env.kindOf x==some .cell) then NameKind.cell else k
 | []=>rfl
 | (n,k)::r=>by
  rw [List.map_cons]
  have ih:= @aO env x r
  show List.lookup x ((if(k==NameKind.free&&env.scope.kind== .function&&env.kindOf n==some .cell)=true then(n,NameKind.cell) else(n,k))::_)=_
  by_cases hc:(k==NameKind.free&&env.scope.kind== .function&&env.kindOf n==some .cell)=true
  ·rw [if_pos hc,List.lookup_cons,List.lookup_cons]
   cases hx:x==n with
   | true=>
    have e:x=n:=eq_of_beq hx
    subst e
    simp only [Option.map,hc,if_true]
   | false=>exact ih
  ·rw [if_neg hc,List.lookup_cons,List.lookup_cons]
   cases hx:x==n with
   | true=>
    have e:x=n:=eq_of_beq hx
    subst e
    simp only [Option.map]
    rw [if_neg hc]
   | false=>exact ih
noncomputable def gAll:Nat→Nat→TGs
 | _,0=>gNil
 | j,n+1=>gCons (gName j) (gAll (j+1) n)
noncomputable def setAll:Nat→List V→St→St
 | _,[],σ=>σ
 | j,v::r,σ=>setAll (j+1) r (σ.set j (some v))
theorem oW: ∀ {vs:List V} {j:Nat} {σ:St} {H:Hp} {Q:St→Hp→Prop},Q (setAll j vs σ) H→gAll j vs.length vs σ H Q
 | [],_,_,_,_,h=>⟨rfl,h⟩
 | v::r,j,σ,H,Q,h=>⟨v,r,rfl,oW (vs:=r) (j:=j+1) (σ:=σ.set j (some v)) h⟩
theorem bU: ∀ {vs:List V} {j:Nat} {σ:St},(setAll j vs σ).length=σ.length
 | [],_,_=>rfl
 | v::r,j,σ=>by
  show(setAll (j+1) r (σ.set j (some v))).length=_
  rw [bU (vs:=r),List.length_set]
theorem eN: ∀ {vs:List V} {j i:Nat} {σ:St},j+vs.length≤i∨i<j→(setAll j vs σ)[i]? =σ[i]?
 | [],_,_,_,_=>rfl
 | v::r,j,i,σ,h=>by
  show(setAll (j+1) r (σ.set j (some v)))[i]? =_
  simp only [List.length_cons] at h
  rw [eN (vs:=r) (by omega),List.getElem?_set_ne (by omega)]
theorem iX: ∀ {vs:List V} {j i:Nat} {σ:St} {v:V},vs[i]? =some v→j+vs.length≤σ.length→(setAll j vs σ)[j+i]? =some (some v)
 | [],_,_,_,_,h,_=>by simp at h
 | w::r,j,0,σ,v,h,hl=>by
  simp at h
  subst h
  show(setAll (j+1) r (σ.set j (some w)))[j]? =_
  rw [eN (vs:=r) (.inr (by omega)),List.getElem?_set_self (by simp only [List.length_cons] at hl;omega)]
 | w::r,j,i+1,σ,v,h,hl=>by
  show(setAll (j+1) r (σ.set j (some w)))[j+(i+1)]? =_
  have e:j+(i+1)=(j+1)+i:=by omega
  rw [e]
  exact iX (vs:=r) (by simpa using h) (by simp only [List.length_cons,List.length_set] at hl ⊢;omega)
section
variable {X:Cx} {ad:Ad}
theorem iY (hN:X.N.Nodup): ∀ {es:List Expr} {xs:List Str} {j:Nat},mapO (fun(e:Expr)=>match e with | .Name x _=>some x | _=>none) es=some xs→(∀ (i:Nat) (x:Str),xs[i]? =some x→X.N[j+i]? =some x∧X.env.scope.names.lookup x=some .local)→PGs X es (gAll j xs.length)
 | [],xs,j,e,_=>by
  cases e
  exact oA
 | a::es,xs,j,e,h=>by
  unfold mapO at e
  cases a<;>try (cases e)
  rename_i x px
  simp only at e
  obtain⟨r,e1,e2⟩:=zMd e
  subst e2
  obtain⟨h1,h2⟩:=h 0 x rfl
  refine lE (eI hN (by simpa using h1) (.inl h2) (.inr h2)) (iY hN e1 fun i y hy=> ?_) rfl
  obtain⟨h3,h4⟩:=h (i+1) y (by simpa using hy)
  exact⟨by rw [←h3];congr 1;omega,h4⟩
noncomputable def gTg (K:PySem.W.Frag) (k:Nat):TG:=match k with
 | 0=>gName 0
 | n+1=>gTup K (n+1) (gAll 0 (n+1))
theorem aDg {tg:Expr} {xs:List Str} {k:Nat} (hc:X.calm=true) (hN:X.N.Nodup) (e:tgNames tg=some (xs,k)) (h: ∀ (i:Nat) (x:Str),xs[i]? =some x→X.N[i]? =some x∧X.env.scope.names.lookup x=some .local):PG X tg (gTg X.K k):=by
 cases tg<;>try (cases e)
 ·rename_i x px
  obtain⟨h1,h2⟩:=h 0 x rfl
  exact eI hN h1 (.inl h2) (.inr h2)
 ·rename_i es j px
  unfold tgNames at e
  obtain⟨ys,e1,e2⟩:=zBd e
  by_cases hl:2≤ys.length
  ·rw [if_pos hl] at e2
   cases e2
   have P:=iY (X:=X) hN (j:=0) e1 fun i x hx=>by
    obtain⟨h1,h2⟩:=h i x hx
    exact⟨by rw [Nat.zero_add];exact h1,h2⟩
   have hlen:(assignEach es X.env).length=xs.length∧(assignEach es X.env).findIdx? (·.1)=none:=by
    clear P hl h e
    induction es generalizing xs with
    | nil=>cases e1;exact⟨rfl,rfl⟩
    | cons a r ih=>
     unfold mapO at e1
     cases a<;>try (cases e1)
     rename_i z pz
     simp only at e1
     obtain⟨r',e3,e4⟩:=zMd e1
     subst e4
     obtain⟨i1,i2⟩:=ih e3
     have ec:assignEach (Expr.Name z pz::r) X.env=(false,assign (.Name z pz) X.env)::assignEach r X.env:=rfl
     rw [ec]
     refine⟨by simp [i1], ?_⟩
     rw [List.findIdx?_cons]
     simp [i2]
   obtain⟨n,hn⟩: ∃ n,xs.length=n+1:=⟨xs.length - 1,by omega⟩
   rw [hn] at P ⊢
   exact u9 hc P (by rw [←hn];exact hlen.1) hlen.2
  ·rw [if_neg hl] at e2
   cases e2
end
structure ItH (X:Cx) (ad:Ad) (J:It) (G H:Hp) (ds:List D):Prop where
 go: ∀ (i:Nat) (G1 H1:Hp) (d:D),Step G H G1 H1→ds[i]? =some d→J.go i H1∧ ∀ x H2,J.yld i H1 x H2→ ∃ G2,Step G1 H1 G2 H2∧Rep X.K ad G2 d x
 stop: ∀ (G1 H1:Hp),Step G H G1 H1→J.stop ds.length H1
 few:ds.length≤sizeLine
def IK (X:Cx) (ad:Ad) (G H:Hp) (r:R) (W:It→Hp→Prop) (E:Nat→Hp→Prop):Prop:=match r with
 | .ok d=> ∃ ds,items d=some ds∧ ∀ J G' H',Step G H G' H'→ItH X ad J G' H' ds→W J H'
 | .ow xs=> ∀ J G' H',Step G H G' H'→ItH X ad J G' H' xs→W J H'
 | .ex c=> ∀ G' H',Step G H G' H'→E c H'
 | .bad=>False
noncomputable def tI (X:Cx) (ad:Ad) (f:F):TI:=fun σ H W=> ∃ G ρ E,Same G H∧SL X.K ad G H ρ σ∧XP X ad σ E∧IK X ad G H (f ρ) W E
abbrev MI (X:Cx) (ad:Ad) (tg e:Expr) (f:F):Prop:=PI X tg e (tI X ad f)
def Cel (sc:Scope):Prop:=cels sc=[]∨ ∃ x,cels sc=[x]∧sc.names.lookup x=some .cell
theorem cf0: ∀ {ns:List (Str×NameKind)} {a:Nat} {acc:List (Str×Addr)},(ns.filter fun p=>p.2== .cell).map (·.1)=[]→cellsFrom a ns acc=acc∧ ∀ h,pushCells h ns=h
 | [],_,_,_=>⟨rfl,fun _=>rfl⟩
 | (y,k)::r,a,acc,e=>by
  by_cases hk:(k==NameKind.cell)=true
  ·simp [List.filter_cons,hk] at e
  ·have e':(r.filter fun p=>p.2== .cell).map (·.1)=[]:=by simpa [List.filter_cons,hk] using e
   obtain⟨h1,h2⟩:=cf0 (a:=a) (acc:=acc) e'
   unfold cellsFrom pushCells
   exact⟨by rw [if_neg hk];exact h1,fun h=>by rw [if_neg hk];exact h2 h⟩
theorem cf1: ∀ {ns:List (Str×NameKind)} {a:Nat} {acc:List (Str×Addr)} {x:Str},(ns.filter fun p=>p.2== .cell).map (·.1)=[x]→cellsFrom a ns acc=(x,a)::acc∧ ∀ h,pushCells h ns=h.push { cls:= .type "cell",data:= .cell none }
 | [],_,_,_,e=>by simp at e
 | (y,k)::r,a,acc,x,e=>by
  by_cases hk:(k==NameKind.cell)=true
  ·have e':y=x∧(r.filter fun p=>p.2== .cell).map (·.1)=[]:=by simpa [List.filter_cons,hk] using e
   obtain⟨rfl,e'⟩:=e'
   obtain⟨h1,h2⟩:=cf0 (a:=a+1) (acc:=(y,a)::acc) e'
   unfold cellsFrom pushCells
   exact⟨by rw [if_pos hk];exact h1,fun h=>by rw [if_pos hk];exact h2 _⟩
  ·have e':(r.filter fun p=>p.2== .cell).map (·.1)=[x]:=by simpa [List.filter_cons,hk] using e
   obtain⟨h1,h2⟩:=cf1 (a:=a) (acc:=acc) e'
   unfold cellsFrom pushCells
   exact⟨by rw [if_neg hk];exact h1,fun h=>by rw [if_neg hk];exact h2 h⟩
noncomputable def clC (X:Cx) (sc:Scope) (L:Addr):List (Str×Addr):=cellsFrom (L+1) sc.names (clOf X.env.cells sc.names [])
theorem bV {X:Cx} {sc:Scope} {L:Addr} {y:Str} {c:Addr} (hc:Cel sc) (h:(clC X sc L).lookup y=some c):(cels sc=[y]∧c=L+1)∨(clOf X.env.cells sc.names []).lookup y=some c:=by
 unfold clC at h
 rcases hc with e | ⟨x,e,_⟩
 ·rw [(cf0 e).1] at h;exact .inr h
 ·rw [(cf1 e).1,List.lookup_cons] at h
  cases q:y==x with
  | true=>rw [q] at h;rw [eq_of_beq q];exact .inl ⟨e,(Option.some.inj h).symm⟩
  | false=>rw [q] at h;exact .inr h
theorem oX {X:Cx} {sc:Scope} {L:Addr} {x:Str} (e:cels sc=[x]):(clC X sc L).lookup x=some (L+1):=by
 unfold clC
 rw [(cf1 e).1,List.lookup_cons,beq_self_eq_true]
theorem lR {X:Cx} {sc:Scope} {L:Addr} {y:Str} {c:Addr} (hc:Cel sc) (hy:sc.names.lookup y=some .free) (h:(clOf X.env.cells sc.names []).lookup y=some c):(clC X sc L).lookup y=some c:=by
 unfold clC
 rcases hc with e | ⟨x,e,hx⟩
 ·rw [(cf0 e).1];exact h
 ·rw [(cf1 e).1,List.lookup_cons]
  cases q:y==x with
  | true=>rw [eq_of_beq q,hx] at hy;cases hy
  | false=>exact h
noncomputable def cX (X:Cx) (N':List Str) (sc:Scope) (s3:Shared) (H3:Hp) (fp:List Addr) (pins:List (Addr×Obj)):Cx:=
 { X with N:=N',s₀:=s3,H₀:=H3,env:=compEnvC sc (clC X sc s3.heap.objs.size) s3.heap.objs.size X.env,outer:=X.stack,stack:=X.stack,ex:=fp,fn:=fun y=>decide (cels sc=[y]),pn:=X.pn++pins,xe:=fun _ _=>False }
section
variable {X:Cx} {ad:Ad} {pins:List (Addr×Obj)} {s s3:Shared} {σ:St} {H H3 G:Hp} {ρ:Rho} {Q:VK} {E:Nat→Hp→Prop} {pos:Pos} {sc:Scope} {N':List Str} {fp:List Addr}
theorem sT {Y:Cx} {σ:St} (h:Y.xe=fun _ _=>False):XP Y ad σ (fun _ _=>False):=by
 intro pins H s e s' I hc
 obtain⟨ea,cls,a0,H',B,_,_,_,_,_,_,_,_,_,c,_,z⟩:=hc
 exact z.elim
theorem Un.sameBut {fs ex:List Addr} {H H':Hp} {h h1 h2:Heap} {C:Addr} (u:Un fs ex H H' h h1) (sb:Heap.SameBut C h1 h2) (hC:h.objs.size≤C):Un fs ex H H' h h2:=by
 have ne: ∀ b o,h.get? b=some o→b≠C:=fun b o e z=>by
  subst z
  exact absurd (Nat.lt_of_lt_of_le (Heap.lt_size e) hC) (Nat.lt_irrefl _)
 refine⟨fun b o e n hb hx=> ?_,fun b o e n hb hx=> ?_,u.free,fun b o e hx=> ?_,u.tups,u.frzs,u.tbls⟩
 ·exact(sb.2 b (ne b o e)).trans (u.keep b o e n hb hx)
 ·obtain⟨sl,z⟩:=u.slot b o e n hb hx
  exact⟨sl,(sb.2 b (ne b o e)).trans z⟩
 ·obtain⟨o',z⟩:=u.there b o e hx
  exact⟨o',(sb.2 b (ne b o e)).trans z⟩
theorem sU {fpO: ∀ b∈fp,FpOk X pins H3 b} {h4:Heap} {m:Str→Option Value} {t':Nat} (I:Inv X pins σ H3 s3) (hk:sc.kind= .function) (hc:Cel sc)
  (hfree: ∀ x,(x,NameKind.free)∈sc.names→X.env.kindOf x=some .cell∨X.env.kindOf x=some .free) (hnd: ∀ x,(x,NameKind.free)∈sc.names→sc.names.lookup x=some .free)
  (hfo: ∀ b∈fp,b<s3.heap.objs.size) (hns:h4.Ns s3.heap.objs.size m) (hkeep: ∀ b o,s3.heap.get? b=some o→h4.get? b=some o) (hnew: ∀ x,cels sc=[x]→h4.IsCell (s3.heap.objs.size+1) none)
  {σc:St} (hl:σc.length=N'.length) (hσ: ∀ (i:Nat) (x:Str) (v:V),N'[i]? =some x→σc[i]? =some (some v)→ ∃ j:Nat,X.N[j]? =some x∧σ[j]? =some (some v)∧(x,NameKind.free)∈sc.names):
  Inv (cX X N' sc s3 H3 fp pins) [] σc H3 { s3 with heap:=h4,toks:=t' }:=by
 have hcl: ∀ x c,(clOf X.env.cells sc.names []).lookup x=some c→(x,NameKind.free)∈sc.names∧X.env.cells.lookup x=some c:=fun x c e=>by
  rcases gL e with ⟨k,h1,h2,h3⟩ | h
  ·subst h2
   refine⟨h1, ?_⟩
   obtain⟨c',hc'⟩:=I.ok.has x (hfree x h1)
   rw [hc'] at h3
   rw [h3]
   exact hc'
  ·cases h
 have hlt: ∀ x c,(clOf X.env.cells sc.names []).lookup x=some c→c<s3.heap.objs.size:=fun x c e=>by
  obtain⟨v,o,ho,_⟩:=I.cell x c (hcl x c e).2
  exact Heap.lt_size ho
 have stk: ∀ b,b∈frs X.stack→b=X.env.locals∨b∈X.fs:=fun b hb=>List.mem_cons.mp (I.stkSub b hb)
 refine⟨⟨I.ok.mod,hk,I.ok.glob,I.ok.blt,Nat.le_refl _,fun x y c h1 h2=> ?_,fun x hx=> ?_,fun x c h1 h2=> ?_,I.ok.hd,I.ok.frames, .inl rfl,fun b hb=> ?_,I.bs,Nat.le_trans I.ok.bsz I.sz,fun b o e hb=> ?_,fun b hb hb'=> ?_,I.stack,I.stkFree⟩,
  rfl,I.bare,Un.kept hkeep,⟨m,hns,fun i x v h1 h2 h3=> ?_⟩,fun x c h=> ?_,I.hok.fresh (Nat.le_refl _),fun x c h=> ?_,fun q hq=> ?_,I.hok.kept hkeep,hl⟩
 ·rcases bV hc h1 with ⟨e1,z1⟩ | z1
  ·rcases bV hc h2 with ⟨e2,z2⟩ | z2
   ·rw [e1] at e2
    exact(List.cons.inj e2).1
   ·have:=hlt y c z2
    rw [z1] at this
    exact absurd this (Nat.not_lt.mpr (Nat.le_succ _))
  ·rcases bV hc h2 with ⟨e2,z2⟩ | z2
   ·have:=hlt x c z1
    rw [z2] at this
    exact absurd this (Nat.not_lt.mpr (Nat.le_succ _))
   ·exact I.ok.inj x y c (hcl x c z1).2 (hcl y c z2).2
 ·-- a name that is a cell here was free in the scope
  have e:(sc.names.lookup x).map (fun k=>if(k==NameKind.free&&X.env.scope.kind== .function&&X.env.kindOf x==some .cell) then NameKind.cell else k)=some .cell∨(sc.names.lookup x).map (fun k=>if(k==NameKind.free&&X.env.scope.kind== .function&&X.env.kindOf x==some .cell) then NameKind.cell else k)=some .free:=by
   rw [←aO]
   exact hx
  cases q:sc.names.lookup x with
  | none=>rw [q] at e;rcases e with e | e<;>cases e
  | some k=>
   have hm:=PySem.mem_of_lookup q
   by_cases hkk:k= .free
   ·subst hkk
    obtain⟨c,hc'⟩:=Option.isSome_iff_exists.mp (gM (cells:=X.env.cells) (acc:=[]) hm)
    exact⟨c,lR hc q hc'⟩
   ·have hkf:(k==NameKind.free)=false:=by simpa using hkk
    rw [q] at e
    simp only [Option.map,hkf,Bool.false_and] at e
    rcases e with e | e
    ·have hkc:k= .cell:=by simpa using e
     subst hkc
     have hmem:x∈cels sc:=List.mem_map.mpr ⟨(x, .cell),List.mem_filter.mpr ⟨hm,by simp⟩,rfl⟩
     have hx1:cels sc=[x]:=by
      rcases hc with z | ⟨y,z,_⟩
      ·rw [z] at hmem;cases hmem
      ·rw [z] at hmem ⊢
       rw [List.mem_singleton.mp hmem]
     exact⟨_,oX hx1⟩
    ·exact absurd (by simpa using e) hkk
 ·have hx1:cels sc=[x]:=of_decide_eq_true h1
  have:=h2.symm.trans (oX hx1)
  cases this
  exact Nat.le_succ _
 ·obtain⟨f0,f1,f2,f3,f4,f5⟩:=fpO b hb
  refine⟨Nat.ne_of_lt (hfo b hb),fun x c h=> ?_⟩
  rcases bV hc h with ⟨_,z⟩ | z
  ·rw [z];exact(Nat.ne_of_lt (Nat.lt_succ_of_lt (hfo b hb))).symm
  ·exact f4 x c (hcl x c z).2
 ·obtain⟨f0,f1,f2,f3,f4,f5⟩:=fpO b hb
  rcases f3 with z | z
  ·exact I.ok.noex b o e z
  ·exact absurd (Nat.lt_of_lt_of_le (Heap.lt_size e) (Nat.le_trans I.ok.bsz z)) (Nat.lt_irrefl _)
 ·obtain⟨f0,f1,f2,f3,f4,f5⟩:=fpO b hb
  rcases stk b hb' with z | z
  ·exact f1 z
  ·exact f2 z
 ·obtain⟨j,j1,j2,j3⟩:=hσ i x v h1 h2
  obtain⟨m0,hn0,hl0⟩:=I.loc
  have hkx:=hfree x j3
  have vis:Vis X.env.scope x:=by
   rcases hkx with z | z
   ·exact .inr (.inl z)
   ·exact .inr (.inr z)
  obtain⟨u,r,l⟩:=hl0 j x v j1 j2 vis
  refine⟨u,r, .inr ?_⟩
  rcases l with ⟨z,_⟩ | ⟨_,c,hcc,hcell'⟩
  ·rcases hkx with z' | z'
   ·have:X.env.kindOf x=some .local:=z
    rw [z'] at this;cases this
   ·have:X.env.kindOf x=some .local:=z
    rw [z'] at this;cases this
  ·refine⟨?_,c, ?_, ?_⟩
   ·have e1:(relabel sc X.env).names.lookup x=(sc.names.lookup x).map (fun k=>if(k==NameKind.free&&X.env.scope.kind== .function&&X.env.kindOf x==some .cell) then NameKind.cell else k):=aO
    have e2:(relabel sc X.env).names.lookup x=some .cell∨(relabel sc X.env).names.lookup x=some .free:=by
     rw [e1,hnd x j3]
     simp only [Option.map]
     split
     ·exact .inl rfl
     ·exact .inr rfl
    exact e2
   ·obtain⟨c',hc'⟩:=Option.isSome_iff_exists.mp (gM (cells:=X.env.cells) (acc:=[]) j3)
    have:=(hcl x c' hc').2
    rw [hcc] at this
    cases this
    exact lR hc (hnd x j3) hc'
   ·obtain⟨o,ho,hd⟩:=hcell'
    exact⟨o,hkeep _ _ ho,hd⟩
 ·rcases bV hc h with ⟨e,z⟩ | z
  ·rw [z];exact⟨none,hnew x e⟩
  ·obtain⟨v,o,ho,hd⟩:=I.cell x c (hcl x c z).2
   exact⟨v,o,hkeep _ _ ho,hd⟩
 ·rcases bV hc h with ⟨e,z⟩ | z
  ·rw [z];exact I.hok.fresh (Nat.le_succ _)
  ·exact I.freeC x c (hcl x c z).2
 ·have hq':q∈X.pn++pins:=by
   have h2:q∈(X.pn++pins)++[]:=hq
   rwa [List.append_nil] at h2
  obtain⟨e,n,ne,nf,d⟩:=I.pin q hq'
  refine⟨hkeep _ _ e,n,Nat.ne_of_lt (Heap.lt_size e),fun z=> ?_,d⟩
  rcases stk _ z with z | z
  ·exact ne z
  ·exact nf z
theorem vK {fpO: ∀ b∈fp,FpOk X pins H3 b} {σc:St} {H':Hp} {s':Shared} {h':Heap} {pn':List (Addr×Obj)} (I:Inv X pins σ H3 s3) (J:Inv (cX X N' sc s3 H3 fp pins) pn' σc H' s') (sb:Heap.SameBut s3.heap.objs.size s'.heap h'):Inv X pins σ H' { s' with heap:=h' }:=by
 have hfree:H' s3.heap.objs.size=none:=J.free
 refine I.call' (ch:=fp) (s':={ s' with heap:=h' }) J.os (Un.sameBut J.base sb (Nat.le_refl _)) (fun b u e=> ?_) J.bare fun b hb=> ?_
 ·refine(J.hok b u e).stay (fun c v hc q=> ?_) (fun _ q=>q) fun _ _ q=>q
  have ne:c≠s3.heap.objs.size:=by
   rintro rfl
   rcases hc with z | z
   ·rw [←z] at e;rw [hfree] at e;cases e
   ·rw [hfree] at z;cases z
  exact(sb.2 c ne).trans q
 ·obtain⟨f0,f1,f2,f3,f4,f5⟩:=fpO b hb
  exact⟨f3,f1,f4,f5⟩
theorem kJ {prog:Program} {w:World} {A:Around} {Rr:Result→Shared→Prop} {s:Shared} {elt target iter:Expr} {ifs:List Expr} {scope:Scope} {pos:Pos} {it acc:Value} {env:PySem.Env} (Iv:Nat→Shared→Prop)
  (turn: ∀ n s,Iv n s→wpAny (model prog w) A (pyNext it) (fun r s₁=>match r with
   | none=>Rr (.ok .next) s₁
   | some v=>wpAny (model prog w) A (letOwnedTupleGo target it v) (fun _ s₁'=>wpAny (model prog w) A (assign target env v) (fun _ s₂=>
     wpAny (model prog w) A (forIn ifs true fun c r=>if r=true then do let ok←isTrue c env (eval c env);pure (ForInStep.yield ok) else pure (ForInStep.yield r)) (fun ok s₃=>
      if ok=true then wpAny (model prog w) A (eval elt env) (fun x s₄=>
       wpAny (model prog w) A (call (.builtin "list.append") [acc,x]) (fun _ s₅=> ∃ m,m<n∧Iv m s₅) (fun _ _=>False) s₄) (fun _ _=>False) s₃
      else ∃ m,m<n∧Iv m s₃) (fun _ _=>False) s₂) (fun _ _=>False) s₁') (fun _ _=>False) s₁) (fun _ _=>False) s)
  (n:Nat) (h:Iv n s):
  codeAny (model prog w) A (.compLoop (.ListComp elt [⟨target,iter,ifs,0⟩] scope pos) 0 it acc env) Rr s:=by
 refine codeAny_loop rfl Iv (fun n s hI=> ?_) n h
 show wpAny _ A ((compTurn (.ListComp elt [⟨target,iter,ifs,0⟩] scope pos) 0 it acc env).onRaise (fun x=>do noteFrame x env;theTreesLotGoes x)) _ _ s
 refine wpAny_noted (wpAny_noRaise ?_)
 rw [compTurn_list]
 refine wpAny_bind (wpAny_standAt (wpAny_bind (wpAny_mono (turn n s hI) (fun r s₁ h₁=> ?_) fun _ _ h'=>h')))
 cases r with
 | none=>exact wpAny_pure h₁
 | some v=>
  refine wpAny_bind (wpAny_mono h₁ (fun _ s₁' h₁'=> ?_) fun _ _ h'=>h')
  refine wpAny_bind (wpAny_mono h₁' (fun _ s₂ h₂=>wpAny_bind (wpAny_mono h₂ (fun ok s₃ h₃=> ?_) fun _ _ h'=>h')) fun _ _ h'=>h')
  cases ok with
  | false=>exact wpAny_pure ⟨rfl,h₃⟩
  | true=>
   exact wpAny_bind (wpAny_bind (wpAny_mono h₃ (fun x s₄ h₄=>wpAny_bind (wpAny_mono h₄ (fun _ s₅ h₅=>wpAny_pure (wpAny_pure ⟨rfl,h₅⟩)) fun _ _ h'=>h')) fun _ _ h'=>h'))
theorem eO {f:D→Option (Option D)} {d:D} {r all:List D} (h:compGo f (d::r)=some all):(f d=some none∧compGo f r=some all)∨ ∃ x all',f d=some (some x)∧compGo f r=some all'∧all=x::all':=by
 unfold compGo at h
 cases e:f d with
 | none=>rw [e] at h;cases h
 | some o=>
  rw [e] at h
  cases o with
  | none=>exact .inl ⟨rfl,h⟩
  | some x=>
   obtain⟨a,h1,h2⟩:=zMd h
   exact .inr ⟨x,a,rfl,h1,h2.symm⟩
theorem oY {K:PySem.W.Frag} {G H:Hp} {ts cs:List Slot} {σ:St} (h:SL K ad G H (ts++cs) σ):SL K ad G H (List.replicate ts.length .no++cs) σ:=by
 refine⟨by rw [←h.len];simp,fun i sl e=> ?_⟩
 by_cases hi:i<ts.length
 ·rw [List.getElem?_append_left (by simpa using hi),List.getElem?_replicate,if_pos hi] at e
  cases e
  have hl:i<σ.length:=by rw [←h.len,List.length_append];omega
  exact⟨σ[i],by simp [hl],trivial⟩
 ·rw [List.getElem?_append_right (by simpa using hi),List.length_replicate] at e
  refine h.at_ i sl ?_
  rw [List.getElem?_append_right (by omega)]
  exact e
theorem vL {K:PySem.W.Frag} {G H:Hp} {n:Nat} {cs:List Slot} {σ:St} {ds:List D} {vs:List V} (h:SL K ad G H (List.replicate n .no++cs) σ) (r:Reps K ad G ds vs) (hn:ds.length=n):SL K ad G H (ds.map Slot.sh++cs) (setAll 0 vs σ):=by
 have hv:=r.length
 have hl:=h.len
 rw [List.length_append,List.length_replicate] at hl
 refine⟨by rw [bU,List.length_append,List.length_map];omega,fun i sl e=> ?_⟩
 by_cases hi:i<n
 ·rw [List.getElem?_append_left (by rw [List.length_map];omega),List.getElem?_map] at e
  cases e1:ds[i]? with
  | none=>rw [e1] at e;cases e
  | some d=>
   rw [e1] at e
   cases e
   obtain⟨v,e2,r2⟩:=r.get e1
   refine⟨some v, ?_,v,rfl,r2⟩
   have:=iX (j:=0) (σ:=σ) e2 (by omega)
   rwa [Nat.zero_add] at this
 ·rw [List.getElem?_append_right (by rw [List.length_map];omega),List.length_map,hn] at e
  obtain⟨ov,h1,h2⟩:=h.at_ i sl (by rw [List.getElem?_append_right (by rw [List.length_replicate];omega),List.length_replicate];exact e)
  exact⟨ov,by rw [eN (.inl (by omega))];exact h1,h2⟩
theorem aA7 {K:PySem.W.Frag} {k:Nat} {d:D} {v:V} {ts cs:List Slot} {n:Nat} {σ:St} {G H Hs:Hp} {W:St→Hp→Prop} (e:tgt k d=some ts) (hn:n=if k=0 then 1 else k) (hG:Same G H) (r:Rep K ad G d v)
  (h:SL K ad G Hs (List.replicate n .no++cs) σ) (q: ∀ σ',σ'.length=σ.length→SL K ad G Hs (ts++cs) σ'→W σ' H):ts.length=n∧gTg K k v σ H W:=by
 cases k with
 | zero=>
  cases e
  subst hn
  refine⟨rfl,q _ (by rw [List.length_set]) ?_⟩
  have:=vL (ds:=[d]) (vs:=[v]) h (Reps.cons r Reps.nil) rfl
  exact this
 | succ k=>
  unfold tgt at e
  cases d<;>try (cases e)
  rename_i ds
  simp only at e
  by_cases hl:ds.length=k+1
  ·rw [if_pos hl] at e
   cases e
   rw [if_neg (by omega)] at hn
   subst hn
   unfold Rep at r
   obtain⟨a,vs,rfl,hq,rq⟩:=r
   refine⟨by rw [List.length_map];exact hl,a,vs,rfl,hG.seqT hq,by rw [rq.length];exact hl, ?_⟩
   have hvl:vs.length=k+1:=by rw [rq.length];exact hl
   have:=oW (vs:=vs) (j:=0) (σ:=σ) (H:=H) (Q:=W) (q _ bU (vL h rq hl))
   rwa [hvl] at this
  ·rw [if_neg hl] at e
   cases e
end
section
variable {X:Cx} {ad:Ad} {pins:List (Addr×Obj)} {s s2 s3:Shared} {σ:St} {H H2 H3 G G2:Hp} {ρ:Rho} {Q:VK} {E:Nat→Hp→Prop} {pos:Pos} {sc:Scope} {N':List Str} {fp:List Addr}
 {tg it elt:Expr} {ifs:List Expr} {k nt:Nat} {xs:List Str} {cs:List Slot} {fc:Option F} {fe:F}
theorem eP {x:Str}: ∀ {N:List Str} {i:Nat},idx x N=some i→N[i]? =some x
 | [],_,e=>by cases e
 | y::r,i,e=>by
  unfold idx at e
  by_cases h:x=y
  ·rw [if_pos h] at e
   cases e
   subst h
   rfl
  ·rw [if_neg h] at e
   obtain⟨j,e1,e2⟩:=zMd e
   subst e2
   simpa using eP e1
def MTs (X:Cx) (ad:Ad) (ifs:List Expr) (fc:Option F):Prop:=match ifs,fc with
 | [],none=>True
 | [c],some f=>MT X ad c f
 | _,_=>False
theorem ME.val {a:Expr} {f:F} {x:SK.D} (ha:ME X ad a f) (I:Inv X pins σ H s) (hG:Same G H) (hS:SL X.K ad G H ρ σ) (hx:XP X ad σ E) (hf:f ρ= .ok x∨ ∃ l,f ρ= .ow l∧x= .lst l):
  wpAny (model X.prog X.w) X.A (eval a X.env) (fun u s1=> ∃ v G1 H1,Inv X pins σ H1 s1∧RelV v u∧Step G H G1 H1∧Rep X.K ad G1 x v) X.xe s:=by
 rcases hf with e | ⟨l,e,rfl⟩
 ·exact L2.thn (ha pins s σ H (fun v H1=> ∃ G1,Step G H G1 H1∧Rep X.K ad G1 x v) I ⟨G,ρ,E,hG,hS,hx,by rw [e];exact fun v G1 H1 st q=>⟨G1,st,q⟩⟩) fun u s1 ⟨v,H1,I1,r1,G1,st,q⟩=>⟨v,G1,H1,I1,r1,st,q⟩
 ·exact L2.thn (ha pins s σ H (fun v H1=> ∃ G1,Step G H G1 H1∧Rep X.K ad G1 (.lst l) v) I ⟨G,ρ,E,hG,hS,hx,by rw [e];exact fun p vs G1 H1 st n m e' q=>aS st n m e' q⟩) fun u s1 ⟨v,H1,I1,r1,G1,st,q⟩=>⟨v,G1,H1,I1,r1,st,q⟩
theorem MT.val {a:Expr} {f:F} {k:Bool} (ha:MT X ad a f) (I:Inv X pins σ H s) (hG:Same G H) (hS:SL X.K ad G H ρ σ) (hx:XP X ad σ E) (hf:f ρ= .ok (.bl k)):
  wpAny (model X.prog X.w) X.A (isTrue a X.env (eval a X.env)) (fun b s1=>b=k∧ ∃ G1 H1,Inv X pins σ H1 s1∧Step G H G1 H1) X.xe s:=by
 exact L2.thn (ha pins s σ H (fun b H1=>b=k∧ ∃ G1,Step G H G1 H1) I ⟨G,ρ,E,hG,hS,hx, .inl ⟨k,hf⟩,by rw [hf];exact fun v G1 H1 st q=>⟨k,by unfold Rep at q;exact q,rfl,G1,st⟩⟩) fun b s1 ⟨H1,I1,e,G1,st⟩=>⟨e,G1,H1,I1,st⟩
theorem aZ {G1 H1 G2 H2:Hp} {D:Addr} {vs:List V} (st:Step G1 H1 G2 H2) (g:G1 D=none) (h:H1 D=some (.lst vs)):G2 D=none∧H2 D=some (.lst vs):=by
 refine⟨?_,st.sh _ _ h⟩
 cases z:G2 D with
 | none=>rfl
 | some o=>
  have:=st.nw D g (by rw [z];exact fun z=>nomatch z)
  rw [h] at this
  cases this
theorem iZ {G1 H1 G2 H2:Hp} {D:Addr} {o:HO} (st:Step G1 H1 G2 H2) (n:H1 D=none) (g:G2 D=none):Step G1 H1 G2 (upd H2 D o):=by
 refine⟨st.sg,fun b u e=> ?_,fun b u e=> ?_,st.nw⟩
 ·have ne:b≠D:=fun z=>by subst z;rw [g] at e;cases e
  rw [aF ne]
  exact st.gh b u e
 ·have ne:b≠D:=fun z=>by subst z;rw [n] at e;cases e
  rw [aF ne]
  exact st.sh b u e
noncomputable def hid (D:Addr) (H:Hp):Hp:=fun b=>if b=D then none else H b
theorem eQ {D b:Addr} {H:Hp} (h:b≠D):hid D H b=H b:=by unfold hid;rw [if_neg h]
theorem cH {D:Addr} {H:Hp}:hid D H D=none:=by unfold hid;rw [if_pos rfl]
theorem oZ {D:Addr} {H:Hp}:Same (hid D H) H:=fun b o e=>by
 by_cases z:b=D
 ·subst z;rw [cH] at e;cases e
 ·rwa [eQ z] at e
theorem o0 {D:Addr} {H:Hp} {o:HO}:hid D (upd H D o)=hid D H:=by
 funext b
 by_cases z:b=D
 ·subst z;rw [cH,cH]
 ·rw [eQ z,eQ z,aF z]
theorem aA8 {D:Addr} {H:Hp} (h:H D=none):hid D H=H:=by
 funext b
 by_cases z:b=D
 ·subst z;rw [cH,h]
 ·rw [eQ z]
theorem eF {G1 H1 G2 H2:Hp} {D:Addr} (st:Step G1 H1 G2 H2) (g:G2 D=none):Step G1 (hid D H1) G2 (hid D H2):=by
 refine⟨st.sg,fun b u e=> ?_,fun b u e=> ?_,fun b h1 h2=> ?_⟩
 ·have ne:b≠D:=fun z=>by subst z;rw [g] at e;cases e
  rw [eQ ne]
  exact st.gh b u e
 ·have ne:b≠D:=fun z=>by subst z;rw [cH] at e;cases e
  rw [eQ ne] at e ⊢
  exact st.sh b u e
 ·by_cases z:b=D
  ·subst z;exact cH
  ·rw [eQ z];exact st.nw b h1 h2
theorem SL.up {K:PySem.W.Frag} {G H H':Hp} {ρ:Rho} {σ:St} (h:SL K ad G H ρ σ) (s:Same H H'):SL K ad G H' ρ σ:=by
 refine⟨h.len,fun i sl e=> ?_⟩
 obtain⟨ov,h1,h2⟩:=h.at_ i sl e
 refine⟨ov,h1, ?_⟩
 cases sl with
 | no=>trivial
 | sh d=>exact h2
 | ow xs=>
  obtain⟨a,vs,e1,e2,e3,e4⟩:=h2
  exact⟨a,vs,e1,e2,s _ _ e3,e4⟩
 | dc kvs=>
  obtain⟨a,es,e1,e2,e3,e4⟩:=h2
  exact⟨a,es,e1,e2,s _ _ e3,e4⟩
 | sd kvs=>
  obtain⟨a,es,e1,e2,e3,e4⟩:=h2
  exact⟨a,es,e1,e2,s _ _ e3,e4⟩
theorem sV {M:Model} {A:Around} {Ex:Value→Shared→Prop} {s:Shared} {sc:Scope} {gl:Addr} {cl:List (Str×Addr)} {q:Str} {o:PySem.Env} {Q:PySem.Env→Shared→Prop} (hc:Cel sc)
  (h: ∀ h4:Heap,h4.Ns s.heap.objs.size (fun _=>none)→(∀ b ob,s.heap.get? b=some ob→h4.get? b=some ob)→(∀ x,cels sc=[x]→h4.IsCell (s.heap.objs.size+1) none)→
   Q (newEnv sc s.heap.objs.size gl (cellsFrom (s.heap.objs.size+1) sc.names cl) q none .none (some o) builtinsNs) { s with heap:=h4 }):
  wpAny M A (newFunctionEnv sc gl cl [] q none .none (some o)) Q Ex s:=by
 simp only [newFunctionEnv,Option.isSome_some,if_true]
 refine wpAny_bind (wpAny_alloc ?_)
 refine wpAny_bind (wpAny_layCells _ (fun name kind cells=>by cases hkc:kind==NameKind.cell<;>simp [hkc]) _ _ _ _ ?_)
 have hns:(s.heap.push { cls:= .type "dict",data:= .dict #[] }).Ns s.heap.objs.size (fun _=>none):=Heap.Ns.new s.heap (.type "dict")
 have hkp: ∀ b ob,s.heap.get? b=some ob→(pushCells (s.heap.push { cls:= .type "dict",data:= .dict #[] }) sc.names).get? b=some ob:=fun b ob e=>pushCells_keeps _ _ b ob (Heap.get?_push_of_some _ e)
 have hz:(s.heap.push { cls:= .type "dict",data:= .dict #[] }:Heap).objs.size=s.heap.objs.size+1:=Heap.size_push ..
 rw [List.forIn_nil]
 refine wpAny_bind (wpAny_pure (wpAny_pure ?_))
 have:=h _ (hns.keeps (pushCells_keeps _ _)) hkp fun x e=>by
  rw [(cf1 (a:=0) (acc:=[]) e).2]
  refine⟨{ cls:= .type "cell",data:= .cell none }, ?_,rfl⟩
  rw [←hz]
  exact Heap.get?_push_size _ rfl
 rw [←hz] at this
 exact this
theorem i0 {J:It} {ds all:List D} {itA:Addr} {tn:Nat→Heap→Prop} {RR:Value→Addr→Result→Shared→Prop} {Ex:Value→Shared→Prop} (hc:X.calm=true) (I2:Inv X pins σ H2 s2) (T:Turn X.prog X.w X.K tg J fp itA tn) (st2:tn 0 s2.heap)
  (f2: ∀ b∈fp,FpOk X pins H2 b) (hit:ItH X ad J G2 H2 ds) (hgo:compGo (compF k cs fc fe) ds=some all) (hG2:Same G2 H2)
  (hk:sc.kind= .function) (hC:Cel sc)
  (hfree: ∀ x,(x,NameKind.free)∈sc.names→X.env.kindOf x=some .cell∨X.env.kindOf x=some .free) (hnd: ∀ x,(x,NameKind.free)∈sc.names→sc.names.lookup x=some .free)
  {σc:St} (hl:σc.length=N'.length) (hσ: ∀ (i:Nat) (x:Str) (v:V),N'[i]? =some x→σc[i]? =some (some v)→ ∃ j:Nat,X.N[j]? =some x∧σ[j]? =some (some v)∧(x,NameKind.free)∈sc.names)
  (hnt:nt=if k=0 then 1 else k) (hsl:SL X.K ad G2 H2 (List.replicate nt .no++cs) σc)
  (hg: ∀ s3 H3 pins',PG (cX X N' sc s3 H3 fp pins') tg (gTg X.K k)) (hts: ∀ s3 H3 pins',MTs (cX X N' sc s3 H3 fp pins') ad ifs fc) (he: ∀ s3 H3 pins',ME (cX X N' sc s3 H3 fp pins') ad elt fe)
  (hEnd: ∀ (s3 s':Shared) (H3 H' G':Hp) (σ':St) (D:Addr) (vs:List V),Inv X pins σ H3 s3→(∀ b∈fp,FpOk X pins H3 b)→Inv (cX X N' sc s3 H3 fp pins) [] σ' H' s'→Step G2 H2 G' H'→H2 D=none→G' D=none→H' D=some (.lst vs)→Reps X.K ad G' all vs→RR (.ref D) s3.heap.objs.size (.ok .next) s'):
  wpAny (model X.prog X.w) X.A (newList []) (fun acc s₃=>wpAny (model X.prog X.w) X.A (newFunctionEnv sc X.env.globals (clOf X.env.cells sc.names []) [] X.env.qual none .none (some X.env)) (fun cenv s₄=>
   codeAny (model X.prog X.w) X.A (.compStart (.ListComp elt [⟨tg,it,ifs,0⟩] sc pos) 0 (.ref itA) acc { cenv with scope:=relabel sc X.env }) (RR acc cenv.locals) s₄) Ex s₃) Ex s2:=by
 refine wpAny_newObj_type ?_
 have hD:H2 s2.heap.objs.size=none:=I2.fresh
 have I3:Inv X pins σ (upd H2 s2.heap.objs.size (.lst [])) { s2 with heap:=s2.heap.push { cls:= .type "list",data:= .seq ([]:List Value).toArray } }:=I2.lnew (t':=s2.toks) .nil (Nat.zero_le _)
 generalize e3:({ s2 with heap:=s2.heap.push { cls:= .type "list",data:= .seq ([]:List Value).toArray } }:Shared)=s3 at I3
 have hsz:s3.heap.objs.size=s2.heap.objs.size+1:=by rw [←e3];exact Heap.size_push ..
 have hk3: ∀ b o,s2.heap.get? b=some o→s3.heap.get? b=some o:=fun b o e=>by rw [←e3];exact Heap.get?_push_of_some _ e
 generalize eD:s2.heap.objs.size=D at hD I3 hsz ⊢
 generalize eH:upd H2 D (.lst [])=H3 at I3
 have hH3D:H3 D=some (.lst []):=by rw [←eH];exact aH
 have hstep3:Step G2 H2 G2 H3:=by rw [←eH];exact Step.own hG2 hD
 have hfo: ∀ b∈fp,b<D:=fun b hb=>by
  obtain⟨o,e,_⟩:=T.obj 0 _ st2 b hb
  rw [←eD]
  exact Heap.lt_size e
 have f3: ∀ b∈fp,FpOk X pins H3 b:=fun b hb=>by
  obtain⟨f0,fr⟩:=f2 b hb
  refine⟨?_,fr⟩
  rw [←eH,aF (Nat.ne_of_lt (hfo b hb))]
  exact f0
 refine sV hC fun h4 hns hkeep4 hnew4=> ?_
 have I4:Inv (cX X N' sc s3 H3 fp pins) [] σc H3 { s3 with heap:=h4 }:=
  sU (t':=s3.toks) (fpO:=f3) I3 hk hC hfree hnd (fun b hb=>Nat.lt_of_lt_of_le (hfo b hb) (by rw [hsz];exact Nat.le_succ _)) hns hkeep4 hnew4 hl hσ
 have st4:tn 0 h4:=T.keep _ _ _ st2 fun b hb o e=>hkeep4 b o (hk3 b o e)
 have few:=hit.few
 -- what holds of the iterator's objects in the block
 have stat: ∀ {H':Hp},(∀ b∈fp,H' b=none)→ ∀ b∈fp,FpOk (cX X N' sc s3 H3 fp pins) [] H' b:=fun {H'} hn b hb=>by
  obtain⟨f0,f1,f2',f3',f4,f5⟩:=f3 b hb
  refine⟨hn b hb, ?_,fun z=> ?_, .inl hb,fun x c h=> ?_,fun q hq=> ?_⟩
  ·have hle:D≤s3.heap.objs.size:=by rw [hsz];exact Nat.le_succ _
   exact Nat.ne_of_lt (Nat.lt_of_lt_of_le (hfo b hb) hle)
  ·rcases List.mem_cons.mp (I3.stkSub b z) with z | z
   ·exact f1 z
   ·exact f2' z
  ·rcases bV hC h with ⟨_,z⟩ | h'
   ·have hle:D≤s3.heap.objs.size:=by rw [hsz];exact Nat.le_succ _
    rw [z]
    exact(Nat.ne_of_lt (Nat.lt_succ_of_lt (Nat.lt_of_lt_of_le (hfo b hb) hle))).symm
   rcases gL h' with ⟨kk,h1,h2,h3⟩ | h
   ·subst h2
    obtain⟨c',hc'⟩:=I3.ok.has x (hfree x h1)
    rw [hc'] at h3
    have e:c=c':=h3
    rw [e]
    exact f4 x c' hc'
   ·cases h
  ·have h2:q∈(X.pn++pins)++[]:=hq
   rw [List.append_nil] at h2
   exact f5 q h2
 have loop: ∀ s4:Shared,s4={ s3 with heap:=h4 }→
   codeAny (model X.prog X.w) X.A (.compLoop (.ListComp elt [⟨tg,it,ifs,0⟩] sc pos) 0 (.ref itA) (.ref D) (cX X N' sc s3 H3 fp pins).env) (RR (.ref D) s3.heap.objs.size) s4:=by
  rintro s4 rfl
  obtain⟨Iv,hIv⟩: ∃ Iv:Nat→Shared→Prop, ∀ n s',Iv n s'↔ ∃ (i:Nat) (σ':St) (H' G':Hp) (ys rest:List SK.D) (vs:List V),Inv (cX X N' sc s3 H3 fp pins) [] σ' H' s'∧tn i s'.heap∧(∀ b∈fp,H' b=none)∧Step G2 H2 G' H'∧G' D=none∧H' D=some (.lst vs)∧Reps X.K ad G' ys vs∧
   compGo (compF k cs fc fe) (ds.drop i)=some rest∧ys++rest=all∧i≤ds.length∧n=ds.length - i∧ys.length≤i∧SL X.K ad G' (hid D H') (List.replicate nt .no++cs) σ':=⟨_,fun _ _=>Iff.rfl⟩
  refine kJ Iv ?_ ds.length
   ((hIv _ _).mpr ⟨0,σc,H3,G2,[],all,[],I4,st4,fun b hb=>(f3 b hb).1,hstep3,iU hG2 hD,hH3D,Reps.nil,hgo,rfl,Nat.zero_le _,rfl,Nat.le_refl _,by rw [←eH,o0,aA8 hD];exact hsl⟩)
  intro n s5 hI5
  obtain⟨i,σ5,H5,G5,ys,rest,vs,I5,st5,fr5,sp5,gD5,hD5,r5,go5,eq5,hi5,rfl,hy5,sl5⟩:=(hIv _ _).mp hI5
  by_cases hlt:i<ds.length
  ·-- a turn
   have ed:ds[i]? =some ds[i]:=by simp [hlt]
   generalize ds[i]=d at ed
   have edrop:ds.drop i=d::ds.drop (i+1):=by
    rw [List.drop_eq_getElem_cons hlt]
    congr 1
    have:=List.getElem?_eq_some_iff.mp ed
    exact this.2
   rw [edrop] at go5
   obtain⟨go,yl⟩:=hit.go i G5 H5 d sp5 ed
   refine L2.thn (T.item (cX X N' sc s3 H3 fp pins) rfl rfl rfl hc i [] s5 σ5 H5 (fun _ _=>False) I5 (stat fr5) st5 go) fun r s6 hz_=> ?_
   obtain⟨u,hr,h6⟩:=hz_
   subst hr
   refine L2.thn h6 fun _ s7 hz_=> ?_
   obtain⟨x,H7,I7,r7,y7,st7,fr7⟩:=hz_
   obtain⟨G7,sp7,rx7⟩:=yl x H7 y7
   have I7':=I7.pinned (stat fr7) (T.obj _ _ st7)
   obtain⟨gD7,hD7⟩:=aZ sp7 gD5 hD5
   have sl7:=sl5.step (eF sp7 gD7)
   -- the target
   have hcomp: ∃ ts,tgt k d=some ts:=by
    cases z:tgt k d with
    | some ts=>exact⟨ts,rfl⟩
    | none=>
     exfalso
     rcases eO go5 with ⟨e,_⟩ | ⟨x',_,e,_,_⟩<;>(unfold compF at e;rw [z] at e;cases e)
   obtain⟨ts,ets⟩:=hcomp
   obtain⟨htl,gt⟩:=aA7 (W:=fun σ' H'=>H'=H7∧SL X.K ad G7 (hid D H7) (ts++cs) σ') ets hnt sp7.gh rx7 sl7 (fun σ' _ q=>⟨rfl,q⟩)
   refine L2.thn (hg s3 H3 pins _ s7 σ5 H7 x u _ I7' r7 gt) fun _ s8 hz_=> ?_
   obtain⟨σ8,H8,I8,e8,sl8⟩:=hz_
   subst e8
   -- again, at the turn's end
   have again: ∀ {s9:Shared} {H9 G9:Hp} {ys9 rest9:List SK.D} {vs9:List V},Inv (cX X N' sc s3 H3 fp pins) ([]++pinsAt fp s7.heap) σ8 H9 s9→Step G2 H2 G9 H9→G9 D=none→H9 D=some (.lst vs9)→Reps X.K ad G9 ys9 vs9→compGo (compF k cs fc fe) (ds.drop (i+1))=some rest9→ys9++rest9=all→ys9.length≤i+1→
     SL X.K ad G9 (hid D H9) (ts++cs) σ8→ ∃ m,m<ds.length - i∧Iv m s9:=by
    intro s9 H9 G9 ys9 rest9 vs9 I9 sp9 gD9 hD9 r9 go9 eq9 hy9 sl9
    refine⟨ds.length - (i+1),by omega,(hIv _ _).mpr ⟨i+1,σ8,H9,G9,ys9,rest9,vs9,I9.unpinned,T.keep _ _ _ st7 fun b hb o e=>(I9.pin (b,o) (List.mem_append_right _ (List.mem_append_right _ (cG hb e)))).1,fun b hb=> ?_,sp9,gD9,hD9,r9,go9,eq9,by omega,rfl,hy9, ?_⟩⟩
    ·obtain⟨o,e,d'⟩:=T.obj _ _ st7 b hb
     exact(I9.pin (b,o) (List.mem_append_right _ (List.mem_append_right _ (cG hb e)))).2.1
    ·have:=oY sl9
     rwa [htl] at this
   have xpF:XP (cX X N' sc s3 H3 fp pins) ad σ8 (fun _ _=>False):=sT rfl
   have sp8:Step G2 H2 G7 H8:=sp5.trans sp7
   -- the element
   have elem: ∀ {s9:Shared} {H9 G9:Hp} (x':SK.D) (all':List SK.D),Inv (cX X N' sc s3 H3 fp pins) ([]++pinsAt fp s7.heap) σ8 H9 s9→Step G7 H8 G9 H9→(fe (ts++cs)= .ok x'∨ ∃ l,fe (ts++cs)= .ow l∧x'= .lst l)→compGo (compF k cs fc fe) (ds.drop (i+1))=some all'→rest=x'::all'→
     wpAny (model X.prog X.w) X.A (eval elt (cX X N' sc s3 H3 fp pins).env) (fun x s₄=>wpAny (model X.prog X.w) X.A (call (.builtin "list.append") [.ref D,x]) (fun _ s₅=> ∃ m,m<ds.length - i∧Iv m s₅) (fun _ _=>False) s₄) (fun _ _=>False) s9:=by
    intro s9 H9 G9 x' all' I9 sp9 hf hgo' hrest
    obtain⟨gD9,hD9⟩:=aZ sp9 gD7 hD7
    have sl9:=sl8.step (eF sp9 gD9)
    refine L2.thn (ME.val (X:=cX X N' sc s3 H3 fp pins) (he s3 H3 pins) I9 sp9.gh (sl9.up oZ) xpF hf) fun u10 s10 hz_=> ?_
    obtain⟨v10,G10,H10,I10,r10,sp10,q10⟩:=hz_
    obtain⟨gD10,hD10⟩:=aZ sp10 gD9 hD9
    have hlen:vs.length<sizeLine:=by
     have:=r5.length
     omega
    refine L2.thn (iQ (X:=cX X N' sc s3 H3 fp pins) _ s10 σ8 H10 (.ref D) [v10] (.ref D) [u10] (fun _ H'=>H'=upd H10 D (.lst (vs++[v10]))) I10 rfl (.cons r10 .nil) ⟨D,vs,v10,rfl,rfl,hD10,hlen,rfl⟩) fun _ s11 hz_=> ?_
    obtain⟨_,H11,I11,_,e11⟩:=hz_
    subst e11
    have spT:Step G2 H2 G10 H10:=(sp8.trans sp9).trans sp10
    have spA:Step G2 H2 G10 (upd H10 D (.lst (vs++[v10]))):=iZ spT hD gD10
    have rA:Reps X.K ad G10 (ys++[x']) (vs++[v10]):=((r5.mono sp7.sg).mono sp9.sg).mono sp10.sg |>.append (Reps.cons q10 Reps.nil)
    have slA:SL X.K ad G10 (hid D (upd H10 D (.lst (vs++[v10])))) (ts++cs) σ8:=by
     rw [o0]
     exact sl9.step (eF sp10 gD10)
    refine again I11 spA gD10 aH rA hgo' ?_ (by simp;omega) slA
    rw [List.append_assoc]
    rw [hrest] at eq5
    exact eq5
   rcases eO go5 with ⟨e,hgo'⟩ | ⟨x',all',e,hgo',hrest⟩
   ·-- left out
    unfold compF at e
    rw [ets] at e
    cases fc with
    | none=>
     exfalso
     simp only at e
     cases z:fe (ts++cs)<;>rw [z] at e<;>cases e
    | some f0=>
     simp only at e
     have hT:=hts s3 H3 pins
     match ifs,hT with
     | [c0],hT=>
      have hv:f0 (ts++cs)= .ok (.bl false):=by
       cases z:f0 (ts++cs) with
       | ok dd=>
        rw [z] at e
        cases dd<;>try (cases e)
        rename_i bb
        cases bb with
        | false=>rfl
        | true=>
         exfalso
         simp only at e
         cases z':fe (ts++cs)<;>rw [z'] at e<;>cases e
       | ow _=>rw [z] at e;cases e
       | ex _=>rw [z] at e;cases e
       | bad=>rw [z] at e;cases e
      refine wpAny_tests_one (L2.thn (MT.val (X:=cX X N' sc s3 H3 fp pins) hT I8 sp7.gh (sl8.up oZ) xpF hv) fun ok s9 hz_=> ?_)
      obtain⟨eb,G9,H9,I9,sp9⟩:=hz_
      subst eb
      obtain⟨gD9,hD9⟩:=aZ sp9 gD7 hD7
      exact iteF (again I9 (sp8.trans sp9) gD9 hD9 ((r5.mono sp7.sg).mono sp9.sg) hgo' eq5 (by omega) (sl8.step (eF sp9 gD9)))
     | [],hT=>exact hT.elim
     | _::_::_,hT=>exact hT.elim
   ·-- taken
    unfold compF at e
    rw [ets] at e
    cases fc with
    | none=>
     have hT:=hts s3 H3 pins
     match ifs,hT with
     | [],_=>
      refine wpAny_tests_nil (iteT ?_)
      refine elem x' all' I8 (Step.refl sp7.gh) ?_ hgo' hrest
      simp only at e
      cases z:fe (ts++cs) with
      | ok dd=>rw [z] at e;cases e;exact .inl rfl
      | ow l=>rw [z] at e;cases e;exact .inr ⟨l,rfl,rfl⟩
      | ex _=>rw [z] at e;cases e
      | bad=>rw [z] at e;cases e
     | _::r1,hT=>cases r1<;>exact False.elim hT
    | some f0=>
     simp only at e
     have hT:=hts s3 H3 pins
     match ifs,hT with
     | [c0],hT=>
      have hv:f0 (ts++cs)= .ok (.bl true)∧(fe (ts++cs)= .ok x'∨ ∃ l,fe (ts++cs)= .ow l∧x'= .lst l):=by
       cases z:f0 (ts++cs) with
       | ok dd=>
        rw [z] at e
        cases dd<;>try (cases e)
        rename_i bb
        cases bb with
        | false=>simp only at e;cases e
        | true=>
         simp only at e
         refine⟨rfl, ?_⟩
         cases z':fe (ts++cs) with
         | ok dd=>rw [z'] at e;cases e;exact .inl rfl
         | ow l=>rw [z'] at e;cases e;exact .inr ⟨l,rfl,rfl⟩
         | ex _=>rw [z'] at e;cases e
         | bad=>rw [z'] at e;cases e
       | ow _=>rw [z] at e;cases e
       | ex _=>rw [z] at e;cases e
       | bad=>rw [z] at e;cases e
      refine wpAny_tests_one (L2.thn (MT.val (X:=cX X N' sc s3 H3 fp pins) hT I8 sp7.gh (sl8.up oZ) xpF hv.1) fun ok s9 hz_=> ?_)
      obtain⟨eb,G9,H9,I9,sp9⟩:=hz_
      subst eb
      exact iteT (elem x' all' I9 sp9 hv.2 hgo' hrest)
     | [],hT=>exact hT.elim
     | _::_::_,hT=>exact hT.elim
  ·-- the end
   have ei:i=ds.length:=by omega
   subst ei
   rw [List.drop_length] at go5
   cases go5
   rw [List.append_nil] at eq5
   subst eq5
   refine L2.thn (T.done (cX X N' sc s3 H3 fp pins) rfl rfl rfl hc ds.length [] s5 σ5 H5 (fun _ _=>False) I5 (stat fr5) st5 (hit.stop G5 H5 sp5)) fun r s6 hz_=> ?_
   obtain⟨hr,I6⟩:=hz_
   subst hr
   exact hEnd s3 s6 H3 H5 G5 σ5 D vs I3 f3 I6 sp5 hD gD5 hD5 r5
 exact codeAny_compStart_list (loop _ rfl) (T.self _ 0 _ _ _ st4 (loop _ rfl))
theorem fO {C:Ctx} {cs:List Nat} {nt:Nat} (hxs:xs.length=nt) (hN:X.N=C.N) (hcs:mapO (fun x=>capLoc C x) (frees sc)=some cs) (hfr: ∀ x∈frees sc,(x,NameKind.free)∈sc.names) (hS:SL X.K ad G H ρ σ) (hlen:σ.length=X.N.length):
  ∃ σc:St,σc.length=(xs++frees sc).length∧(∀ (i:Nat) (x:Str) (v:V),(xs++frees sc)[i]? =some x→σc[i]? =some (some v)→ ∃ j:Nat,X.N[j]? =some x∧σ[j]? =some (some v)∧(x,NameKind.free)∈sc.names)∧
   SL X.K ad G H (List.replicate nt .no++caps cs ρ) σc:=by
 have key: ∀ (ys:List Str) (js:List Nat),mapO (fun x=>capLoc C x) ys=some js→js.length=ys.length∧ ∀ (i:Nat) (y:Str),ys[i]? =some y→ ∃ j,js[i]? =some j∧C.N[j]? =some y:=by
  intro ys
  induction ys with
  | nil=>intro js e;cases e;exact⟨rfl,fun i y h=>by simp at h⟩
  | cons y r ih=>
   intro js e
   unfold mapO at e
   cases e1:capLoc C y with
   | none=>rw [e1] at e;cases e
   | some j=>
    rw [e1] at e
    obtain⟨js',e2,e3⟩:=zMd e
    subst e3
    obtain⟨i1,i2⟩:=ih js' e2
    refine⟨by simp [i1],fun i z h=> ?_⟩
    cases i with
    | zero=>
     simp at h
     subst h
     refine⟨j,rfl, ?_⟩
     have hidx:idx y C.N=some j:=by
      unfold capLoc at e1
      split at e1
      ·exact e1
      ·exact e1
      ·cases e1
     exact eP hidx
    | succ i=>
     obtain⟨j',h1,h2⟩:=i2 i z (by simpa using h)
     exact⟨j',by simpa using h1,h2⟩
 obtain⟨k1,k2⟩:=key (frees sc) cs hcs
 refine⟨List.replicate nt none++cs.map (fun j=>(σ[j]?).getD none),by simp [k1,hxs],fun i x v h1 h2=> ?_, ?_,fun i sl e=> ?_⟩
 ·by_cases hi:i<nt
  ·rw [List.getElem?_append_left (by simpa using hi),List.getElem?_replicate,if_pos hi] at h2
   cases h2
  ·rw [List.getElem?_append_right (by simpa using hi),List.length_replicate,List.getElem?_map] at h2
   rw [List.getElem?_append_right (by omega),hxs] at h1
   obtain⟨j,j1,j2⟩:=k2 (i - nt) x h1
   rw [j1] at h2
   have h3:(σ[j]?).getD none=some v:=Option.some.inj h2
   refine⟨j,by rw [hN];exact j2, ?_,hfr x (List.mem_of_getElem? h1)⟩
   cases q:σ[j]? with
   | none=>rw [q] at h3;cases h3
   | some ov=>rw [q] at h3;exact congrArg some h3
 ·simp [caps]
 ·by_cases hi:i<nt
  ·rw [List.getElem?_append_left (by simpa using hi),List.getElem?_replicate,if_pos hi] at e
   cases e
   refine⟨none, ?_,trivial⟩
   rw [List.getElem?_append_left (by simpa using hi),List.getElem?_replicate,if_pos hi]
  ·rw [List.getElem?_append_right (by simpa using hi),List.length_replicate] at e
   unfold caps at e
   rw [List.getElem?_map] at e
   cases q:cs[i - nt]? with
   | none=>rw [q] at e;cases e
   | some j=>
    rw [q] at e
    have e':(ρ[j]?).getD .no=sl:=Option.some.inj e
    refine⟨(σ[j]?).getD none, ?_, ?_⟩
    ·rw [List.getElem?_append_right (by simpa using hi),List.length_replicate,List.getElem?_map,q]
     rfl
    ·cases q2:ρ[j]? with
     | none=>rw [q2] at e';subst e';trivial
     | some sl'=>
      rw [q2] at e'
      have e'':sl'=sl:=e'
      subst e''
      obtain⟨ov,z1,z2⟩:=hS.at_ j sl' q2
      rw [z1]
      exact z2
end
section
variable {X:Cx} {ad:Ad} {pins:List (Addr×Obj)} {s s2 s3:Shared} {σ:St} {H H2 H3 G G2:Hp} {ρ:Rho} {Q:VK} {E:Nat→Hp→Prop} {pos:Pos} {sc:Scope} {N':List Str} {fp:List Addr}
 {tg it elt:Expr} {ifs:List Expr} {k nt:Nat} {xs:List Str} {cs:List Nat} {fc:Option F} {fi fe:F}
theorem noSet (h: ∀ a b c,it≠ .Set a b c): ∀ x,foldedSetIterable it X.env x=pure x:=by
 intro x
 cases it<;>first | rfl | exact absurd rfl (h _ _ _)
structure CompSc (X:Cx) (C:Ctx) (sc:Scope) (xs:List Str) (cs:List Nat):Prop where
 kind:sc.kind= .function
 cell:Cel sc
 names: ∀ y∈sc.names,y.2= .local→sc.names.lookup y.1=some .local
 fre: ∀ x,(x,NameKind.free)∈sc.names→X.env.kindOf x=some .cell∨X.env.kindOf x=some .free
 frl: ∀ x,(x,NameKind.free)∈sc.names→sc.names.lookup x=some .free
 N:X.N=C.N
 cs:mapO (fun x=>capLoc C x) (frees sc)=some cs
theorem i5 {x:Str} (h:x∈frees sc):(x,NameKind.free)∈sc.names:=by
 unfold frees at h
 obtain⟨p,hp,rfl⟩:=List.mem_map.mp h
 obtain⟨h1,h2⟩:=List.mem_filter.mp hp
 obtain⟨y,kk⟩:=p
 have:kk= .free:=by simpa using h2
 subst this
 exact h1
theorem aA9 {W:It→Hp→Prop} (hr:RK X.K ad G H (rComp k cs fi fc fe ρ) Q E)
  (q: ∀ J G2 H2 ds all,Step G H G2 H2→ItH X ad J G2 H2 ds→compGo (compF k (caps cs ρ) fc fe) ds=some all→RK X.K ad G2 H2 (.ow all) Q E→W J H2):IK X ad G H (fi ρ) W E:=by
 unfold rComp at hr
 cases e:fi ρ with
 | ok d=>
  rw [e] at hr
  have hr':RK X.K ad G H (match items d with | some ds=>(match compGo (compF k (caps cs ρ) fc fe) ds with | some xs=> .ow xs | none=> .bad) | none=> .bad) Q E:=hr
  cases e2:items d with
  | none=>rw [e2] at hr';exact hr'.elim
  | some ds=>
   rw [e2] at hr'
   have hr2:RK X.K ad G H (match compGo (compF k (caps cs ρ) fc fe) ds with | some xs=> .ow xs | none=> .bad) Q E:=hr'
   cases e3:compGo (compF k (caps cs ρ) fc fe) ds with
   | none=>rw [e3] at hr2;exact hr2.elim
   | some all=>
    rw [e3] at hr2
    exact⟨ds,e2,fun J G' H' st hi=>q J G' H' ds all st hi e3 (RK.step hr2 st)⟩
 | ow l=>
  rw [e] at hr
  have hr2:RK X.K ad G H (match compGo (compF k (caps cs ρ) fc fe) l with | some xs=> .ow xs | none=> .bad) Q E:=hr
  cases e3:compGo (compF k (caps cs ρ) fc fe) l with
  | none=>rw [e3] at hr2;exact hr2.elim
  | some all=>
   rw [e3] at hr2
   exact fun J G' H' st hi=>q J G' H' l all st hi e3 (RK.step hr2 st)
 | ex c=>rw [e] at hr;exact hr
 | bad=>rw [e] at hr;exact hr
theorem xF {C:Ctx} (hc:X.calm=true) (S:CompSc X C sc xs cs) (hi:MI X ad tg it fi) (hset: ∀ a b c,it≠ .Set a b c) (hxs:xs.length=if k=0 then 1 else k)
  (hg: ∀ fp s3 H3 pins',PG (cX X (xs++frees sc) sc s3 H3 fp pins') tg (gTg X.K k)) (hts: ∀ fp s3 H3 pins',MTs (cX X (xs++frees sc) sc s3 H3 fp pins') ad ifs fc) (he: ∀ fp s3 H3 pins',ME (cX X (xs++frees sc) sc s3 H3 fp pins') ad elt fe):
  ME X ad (.ListComp elt [⟨tg,it,ifs,0⟩] sc pos) (rComp k cs fi fc fe):=by
 intro pins s σ H Q I ⟨G,ρ,E,hG,hS,hx,hr⟩
 rw [eval_ListComp]
 have hcl:closureFor sc X.env=pure (clOf X.env.cells sc.names []):=fN fun x hx=>by
  obtain⟨c,h⟩:=I.ok.has x (S.fre x hx)
  rw [h];rfl
 refine wpAny_comprehension_free (use:=none) rfl (noSet hset) hcl S.kind S.names ?_
 show wpAny (model X.prog X.w) X.A (eval it X.env) _ X.xe s
 refine L2.thn (hi pins s σ H _ I ⟨G,ρ,E,hG,hS,hx,aA9 (W:=fun J H2=> ∃ G2 ds all,Step G H G2 H2∧ItH X ad J G2 H2 ds∧compGo (compF k (caps cs ρ) fc fe) ds=some all∧RK X.K ad G2 H2 (.ow all) Q E) hr fun J G2 H2 ds all a b c d=>⟨G2,ds,all,a,b,c,d⟩⟩) fun v s1 h1=>
  L2.thn h1 fun itv s2 hz_=> ?_
 obtain⟨itA,fp,tn,J,H2,e,I2,T,st2,f2,G2,ds,all,sp,hit,hgo,hr2⟩:=hz_
 subst e
 obtain⟨σc,l1,l2,l3⟩:=fO (xs:=xs) (sc:=sc) (nt:=if k=0 then 1 else k) hxs S.N S.cs (fun x h=>i5 h) (hS.step sp) I2.len
 refine i0 (σc:=σc) hc I2 T st2 f2 hit hgo sp.gh S.kind S.cell S.fre S.frl l1 l2 rfl l3 (hg fp) (hts fp) (he fp) fun s3 s' H3 H' G' σ' D vs I3 f3 J' sp' hD gD hD' r'=> ?_
 obtain⟨m,hns,_⟩:=J'.loc
 refine⟨m,hns,fun h' sb=>⟨.ref D,H',vK (fpO:=f3) I3 J' sb,rfl,hr2 D vs G' H' sp' hD gD hD' r'⟩⟩
theorem xG {a:Addr} {vs:List V} {ds:List D} (hq:SqT X.K H a vs) (r:Reps X.K ad G ds vs) (hG:Same G H) (few:vs.length≤sizeLine):ItH X ad (Itt X.K a) G H ds:=by
 refine⟨fun i G1 H1 d st e=> ?_,fun G1 H1 st=>⟨vs,st.sh.seqT hq,by rw [r.length];exact Nat.le_refl _⟩,by rw [←r.length];exact few⟩
 obtain⟨v,e1,r1⟩:=r.get e
 refine⟨⟨vs,v,st.sh.seqT hq,e1⟩, ?_⟩
 rintro x H2 ⟨rfl,y⟩
 have:=y vs (st.sh.seqT hq)
 rw [e1] at this
 cases this
 exact⟨G1,Step.refl st.gh,r1.mono st.sg⟩
theorem xH {a:Addr} {vs:List V} {ds:List D} (hq:SqL X.K H a vs) (r:Reps X.K ad G ds vs) (hG:Same G H) (few:vs.length≤sizeLine):ItH X ad (Itl X.K a) G H ds:=by
 refine⟨fun i G1 H1 d st e=> ?_,fun G1 H1 st=>⟨vs,st.sh.seq hq,by rw [r.length];exact Nat.le_refl _⟩,by rw [←r.length];exact few⟩
 obtain⟨v,e1,r1⟩:=r.get e
 refine⟨⟨vs,v,st.sh.seq hq,e1⟩, ?_⟩
 rintro x H2 ⟨rfl,y⟩
 have:=y vs (st.sh.seq hq)
 rw [e1] at this
 cases this
 exact⟨G1,Step.refl st.gh,r1.mono st.sg⟩
theorem lS {a:Expr} {f:F} (ha:ML X ad a f):MI X ad tg a f:=by
 intro pins s σ H W I ⟨G,ρ,E,hG,hS,hx,hr⟩
 -- the value, then its iterator
 have key: ∀ (d:D) (ds:List D),items d=some ds→(∀ J G' H',Step G H G' H'→ItH X ad J G' H' ds→W J H')→ ∀ u s1 v H1 G1,Inv X pins σ H1 s1→RelV v u→Step G H G1 H1→Seq X ad G1 H1 d v→wpAny (model X.prog X.w) X.A (pyIter u) (PIE X pins σ tg W) X.xe s1:=by
  intro d ds e hw u s1 v H1 G1 I1 r1 st q
  obtain⟨p,vs,rfl,hq,rq⟩:=q.items st.gh e
  cases (show u=Value.ref p from r1)
  rcases hq with ⟨_,hq⟩ | ⟨_,hq⟩
  ·obtain⟨its,rv,pt,hz⟩:=I1.tuple hq
   refine wpAny_pyIter_tuple (show s1.heap.IsTuple p its.toArray from pt) ?_
   refine⟨s1.heap.objs.size,[s1.heap.objs.size],_,_,H1,rfl,I1.kept (t':=s1.toks) fun b o e=>Heap.get?_push_of_some _ e,fH p _,⟨_,Heap.get?_push_size _ rfl,rfl,rfl⟩,fun b hb=> ?_,hw _ G1 H1 st (xG hq rq st.gh hz)⟩
   have e:b=s1.heap.objs.size:=by simpa using hb
   subst e
   exact I1.fpOk (Nat.le_refl _) (I1.hok.fresh (Nat.le_refl _))
  ·obtain⟨its,rv,pt,hz⟩:=I1.list hq
   refine wpAny_pyIter_list pt.isList ?_
   refine⟨s1.heap.objs.size,[s1.heap.objs.size],_,_,H1,rfl,I1.kept (t':=s1.toks) fun b o e=>Heap.get?_push_of_some _ e,iF p _,⟨_,Heap.get?_push_size _ rfl,rfl,rfl⟩,fun b hb=> ?_,hw _ G1 H1 st (xH hq rq st.gh hz)⟩
   have e:b=s1.heap.objs.size:=by simpa using hb
   subst e
   exact I1.fpOk (Nat.le_refl _) (I1.hok.fresh (Nat.le_refl _))
 cases e:f ρ with
 | ok d=>
  rw [e] at hr
  obtain⟨ds,e2,hw⟩:=hr
  exact L2.thn (ha pins s σ H (fun v H1=> ∃ G1,Step G H G1 H1∧Seq X ad G1 H1 d v) I ⟨G,ρ,E,hG,hS,hx,by rw [e];exact fun v G1 H1 st q=>⟨G1,st,q⟩⟩) fun u s1 ⟨v,H1,I1,r1,G1,st,q⟩=>key d ds e2 hw u s1 v H1 G1 I1 r1 st q
 | ow l=>
  rw [e] at hr
  exact L2.thn (ha pins s σ H (fun v H1=> ∃ G1,Step G H G1 H1∧Rep X.K ad G1 (.lst l) v) I ⟨G,ρ,E,hG,hS,hx,by rw [e];exact fun p vs G1 H1 st n m e' q=>aS st n m e' q⟩) fun u s1 ⟨v,H1,I1,r1,G1,st,q⟩=>key (.lst l) l rfl hr u s1 v H1 G1 I1 r1 st (.inl q)
 | ex c=>
  rw [e] at hr
  exact L2.thn (ha pins s σ H (fun v H1=>False) I ⟨G,ρ,E,hG,hS,hx,by rw [e];exact hr⟩) fun u s1 ⟨v,H1,I1,r1,q⟩=>q.elim
 | bad=>
  rw [e] at hr
  exact False.elim hr
theorem xI {lo:Int} {n:Nat} (hG:Same G H) (few:n≤sizeLine):ItH X ad (Itr lo n) G H ((List.range n).map fun(i:Nat)=>D.int (lo+(i:Int))):=by
 refine⟨fun i G1 H1 d st e=> ?_,fun G1 H1 st=>by simp [Itr],by simpa using few⟩
 rw [List.getElem?_map] at e
 cases q:(List.range n)[i]? with
 | none=>rw [q] at e;cases e
 | some j=>
  rw [q] at e
  obtain⟨hi,hj⟩:=List.getElem?_eq_some_iff.mp q
  rw [List.length_range] at hi
  rw [List.getElem_range] at hj
  subst hj
  cases e
  refine⟨hi, ?_⟩
  rintro x H2 ⟨rfl,rfl⟩
  exact⟨G1,Step.refl st.gh,aD⟩
theorem o6 (n:Nat):rngD n=(List.range n).map fun(i:Nat)=>D.int (0+(i:Int)):=by
 unfold rngD
 congr 1
 funext i
 rw [Int.zero_add]
theorem gN {f:F} {k:D→R} {W:It→Hp→Prop} {Q':VK} (hG:Same G H) (hS:SL X.K ad G H ρ σ) (hx:XP X ad σ E) (hr:IK X ad G H ((f ρ).bind k) W E)
  (q: ∀ v d G1 H1,Step G H G1 H1→Rep X.K ad G1 d v→IK X ad G1 H1 (k d) W E→Q' v H1):tE X ad f σ H Q':=by
 have ikst: ∀ {r:R} {G1 H1:Hp},IK X ad G H r W E→Step G H G1 H1→IK X ad G1 H1 r W E:=fun {r G1 H1} h st=>by
  cases r with
  | ok d=>obtain⟨ds,e,h⟩:=h;exact⟨ds,e,fun J G' H' st' hi=>h J G' H' (st.trans st') hi⟩
  | ow l=>exact fun J G' H' st' hi=>h J G' H' (st.trans st') hi
  | ex c=>exact fun G' H' st'=>h G' H' (st.trans st')
  | bad=>exact h
 refine⟨G,ρ,E,hG,hS,hx, ?_⟩
 cases e:f ρ with
 | ok d=>
  rw [e] at hr
  exact fun v G1 H1 st r=>q v d G1 H1 st r (ikst hr st)
 | ow xs=>
  rw [e] at hr
  intro p vs G1 H1 st n m e' r
  obtain⟨G2,st2,r2⟩:=aS (X:=X) (ad:=ad) st n m e' r
  exact q _ _ G2 H1 st2 r2 (ikst hr st2)
 | ex c=>
  rw [e] at hr
  exact hr
 | bad=>
  rw [e] at hr
  exact hr
theorem sW {a:Expr} {f:F} {p:Pos} (hg:L2.Gl X "range") (hm:X.mg "range"=none) (ha:ME X ad a f) (hs:starEach [a] X.env=(false,eval a X.env)::starEach [] X.env):MI X ad tg (.Call (.Name "range" p) [a] [] pos) (iRange f):=by
 intro pins s σ H W I ⟨G,ρ,E,hG,hS,hx,hr⟩
 refine iG (ta:=tCons (tE X ad f) tNil) hg hm (aR ha bN hs) hs pins s σ H W I ?_
 show tE X ad f σ H fun v H1=> ∃ j:Int,[v]=[.int j]∧ -(2 ^ 62)≤j∧j<2 ^ 62∧W (Itr 0 j.toNat) H1
 refine gN hG hS hx hr fun v d G1 H1 st r k=> ?_
 cases d<;>try exact False.elim k
 rename_i i
 unfold Rep at r;subst r
 have k':IK X ad G1 H1 (if -100000≤i∧i≤100000 then .ok (.lst (rngD i.toNat)) else .bad) W E:=k
 by_cases hc: -100000≤i∧i≤100000
 ·rw [if_pos hc] at k'
  obtain⟨ds,e,hw⟩:=k'
  cases e
  refine⟨i,rfl,by omega,by omega,hw _ G1 H1 (Step.refl st.gh) ?_⟩
  rw [o6]
  exact xI st.gh (by rw [sizeLine_eq];omega)
 ·rw [if_neg hc] at k'
  exact k'.elim
end
structure SS (X:Cx) (ad:Ad) (G₀ G H:Hp) (ρ:Rho) (σ:St):Prop where
 st:Step G₀ X.H₀ G H
 sl:SL X.K ad G H ρ σ
 ow: ∀ (i:Nat) (sl:Slot) (a:Addr),ρ[i]? =some sl→sl.owns=true→σ[i]? =some (some (.ref a))→X.H₀ a=none
 dj: ∀ (i j:Nat) (sl sl':Slot) (a:Addr),ρ[i]? =some sl→ρ[j]? =some sl'→sl.owns=true→sl'.owns=true→σ[i]? =some (some (.ref a))→σ[j]? =some (some (.ref a))→i=j
def OKo (X:Cx) (ad:Ad) (G₀:Hp) (o:Out) (D':Ends) (E:St→Nat→Hp→Prop):Prop:=match o with
 | .nx ρ=> ∀ σ G H,SS X ad G₀ G H ρ σ→D'.nx σ H
 | .bk ρ=> ∀ σ G H,SS X ad G₀ G H ρ σ→D'.bk σ H
 | .ct ρ=> ∀ σ G H,SS X ad G₀ G H ρ σ→D'.ct σ H
 | .ex c ρ=> ∀ σ G H,SS X ad G₀ G H ρ σ→E σ c H
 | .rt (.ok d)=> ∀ v G H,Step G₀ X.H₀ G H→Rep X.K ad G d v→D'.rt v H
 | .rt (.ow xs)=> ∀ p vs G H,Step G₀ X.H₀ G H→X.H₀ p=none→G p=none→H p=some (.lst vs)→Reps X.K ad G xs vs→D'.rt (.ref p) H
 | .rt _=>False
def XA (X:Cx) (ad:Ad) (Z:(St→Nat→Hp→Prop)→Prop) (E:St→Nat→Hp→Prop):Prop:=(∀ σ,XP X ad σ (E σ))∧Z E
noncomputable def tS (X:Cx) (ad:Ad) (Z:(St→Nat→Hp→Prop)→Prop) (g:FS):TS:=fun D' σ H=> ∃ G₀ G ρ E,SS X ad G₀ G H ρ σ∧XA X ad Z E∧OKo X ad G₀ (g ρ) D' E
abbrev MS (X:Cx) (ad:Ad) (Z:(St→Nat→Hp→Prop)→Prop) (st:Stmt) (g:FS):Prop:=PS X st (tS X ad Z g)
abbrev MSs (X:Cx) (ad:Ad) (Z:(St→Nat→Hp→Prop)→Prop) (st:List Stmt) (g:FS):Prop:=PSs X st (tS X ad Z g)
section
variable {X:Cx} {ad:Ad} {Z:(St→Nat→Hp→Prop)→Prop} {pins:List (Addr×Obj)} {s:Shared} {σ:St} {H G G₀:Hp} {ρ:Rho} {D':Ends} {E:St→Nat→Hp→Prop} {pos pos':Pos} {e:Expr} {f:F} {g h:FS} {st:Stmt} {sts:List Stmt}
theorem SS.step {G1 H1:Hp} (S:SS X ad G₀ G H ρ σ) (t:Step G H G1 H1):SS X ad G₀ G1 H1 ρ σ:=⟨S.st.trans t,S.sl.step t,S.ow,S.dj⟩
theorem dO {G₀ Gs G H H₀ Hs:Hp} (a:Step G₀ H₀ Gs Hs) (b:Step Gs H₀ G H):Step G₀ H₀ G H:=
 ⟨a.sg.trans b.sg,b.gh,b.sh,fun x h1 h2=>by
  cases q:Gs x with
  | none=>exact b.nw x q h2
  | some o=>exact a.nw x h1 (by rw [q];exact fun z=>nomatch z)⟩
theorem SS.up {Gs Hs:Hp} (a:Step G₀ X.H₀ Gs Hs) (S:SS X ad Gs G H ρ σ):SS X ad G₀ G H ρ σ:=⟨dO a S.st,S.sl,S.ow,S.dj⟩
theorem SS.here (S:SS X ad G₀ G H ρ σ):SS X ad G G H ρ σ:=⟨⟨Same.refl _,S.st.gh,S.st.sh,fun b h1 h2=>absurd h1 h2⟩,S.sl,S.ow,S.dj⟩
theorem OKo.rebase {o:Out} {Gs Hs:Hp} (h:OKo X ad G₀ o D' E) (a:Step G₀ X.H₀ Gs Hs):OKo X ad Gs o D' E:=by
 cases o with
 | nx ρ=>exact fun σ G H S=>h σ G H (S.up a)
 | bk ρ=>exact fun σ G H S=>h σ G H (S.up a)
 | ct ρ=>exact fun σ G H S=>h σ G H (S.up a)
 | ex c ρ=>exact fun σ G H S=>h σ G H (S.up a)
 | rt r=>
  cases r with
  | ok d=>exact fun v G H st q=>h v G H (dO a st) q
  | ow xs=>exact fun p vs G H st n m e q=>h p vs G H (dO a st) n m e q
  | ex c=>exact h
  | bad=>exact h
theorem bO {k:D→Out} {Q':VK} (S:SS X ad G₀ G H ρ σ) (hx:XA X ad Z E) (hr:OKo X ad G₀ (outR ρ (f ρ) k) D' E)
  (q: ∀ v d G1 H1,Step G H G1 H1→Rep X.K ad G1 d v→OKo X ad G₀ (k d) D' E→Q' v H1):tE X ad f σ H Q':=by
 refine⟨G,ρ,E σ,S.st.gh,S.sl,hx.1 σ, ?_⟩
 unfold outR at hr
 cases e:f ρ with
 | ok d=>rw [e] at hr;exact fun v G1 H1 st r=>q v d G1 H1 st r hr
 | ow xs=>
  rw [e] at hr
  intro p vs G1 H1 st n m e' r
  obtain⟨G2,st2,r2⟩:=aS (X:=X) (ad:=ad) st n m e' r
  exact q _ _ G2 H1 st2 r2 hr
 | ex c=>rw [e] at hr;exact fun G1 H1 st=>hr σ G1 H1 (S.step st)
 | bad=>rw [e] at hr;exact hr
theorem xJ:MS X ad Z (.Pass pos) sPass:=PS.imp wK fun D' σ H ⟨G₀,G,ρ,E,S,hx,hr⟩=>hr σ G H S
theorem sX:MS X ad Z (.Break pos) sBrk:=PS.imp sG fun D' σ H ⟨G₀,G,ρ,E,S,hx,hr⟩=>hr σ G H S
theorem kM:MS X ad Z (.Continue pos) sCont:=PS.imp jY fun D' σ H ⟨G₀,G,ρ,E,S,hx,hr⟩=>hr σ G H S
theorem xK:MSs X ad Z [] sPass:=PSs.imp wI fun D' σ H ⟨G₀,G,ρ,E,S,hx,hr⟩=>hr σ G H S
theorem xL (h1:MS X ad Z st g):MSs X ad Z [st] g:=wJ h1
theorem sY (h1:MS X ad Z st g) (h2:MSs X ad Z sts h):MSs X ad Z (st::sts) (sSeq g h):=by
 refine PSs.imp (sF h1 h2) ?_
 rintro D' σ H ⟨G₀,G,ρ,E,S,hx,hr⟩
 refine⟨G₀,G,ρ,E,S,hx, ?_⟩
 unfold sSeq at hr
 cases e:g ρ with
 | nx ρ'=>rw [e] at hr;exact fun σ' G' H' S'=>⟨G₀,G',ρ',E,S',hx,hr⟩
 | bk ρ'=>rw [e] at hr;exact hr
 | ct ρ'=>rw [e] at hr;exact hr
 | ex c ρ'=>rw [e] at hr;exact hr
 | rt r=>
  rw [e] at hr
  cases r<;>exact hr
theorem o7 (he:ME X ad e f):MS X ad Z (.Return (some e) pos) (sRet f):=by
 refine PS.imp (u8 he) ?_
 rintro D' σ H ⟨G₀,G,ρ,E,S,hx,hr⟩
 refine⟨G,ρ,E σ,S.st.gh,S.sl,hx.1 σ, ?_⟩
 unfold sRet at hr
 cases e:f ρ with
 | ok d=>rw [e] at hr;exact fun v G1 H1 st r=>hr v G1 H1 (S.st.trans st) r
 | ow xs=>rw [e] at hr;exact fun p vs G1 H1 st n m e' r=>hr p vs G1 H1 (S.st.trans st) (S.st.sh.free n) m e' r
 | ex c=>rw [e] at hr;exact fun G1 H1 st=>hr σ G1 H1 (S.step st)
 | bad=>rw [e] at hr;exact hr
theorem xM:MS X ad Z (.Return none pos) sRetN:=PS.imp wL fun D' σ H ⟨G₀,G,ρ,E,S,hx,hr⟩=>hr .non G H S.st (by unfold Rep;rfl)
theorem xN {i:Nat} {x:Str} {p:Pos} (hN:X.N[i]? =some x) (hv:Vis X.env.scope x) (hd:(x==("__debug__":Str))=false) (hcd:(x==("__classdict__":Str))=false):MS X ad Z (.Return (some (.Name x p)) pos) (sRet (rGive i)):=by
 refine PS.imp (u8 (bL hN hv hd hcd)) ?_
 rintro D' σ H ⟨G₀,G,ρ,E,S,hx,hr⟩
 unfold sRet rGive at hr
 cases e:ρ[i]? with
 | none=>rw [e] at hr;exact hr.elim
 | some sl=>
  rw [e] at hr
  cases sl with
  | no=>exact hr.elim
  | dc kvs=>exact hr.elim
  | sd kvs=>exact hr.elim
  | sh d=>
   obtain⟨v,h1,h2⟩:=S.sl.sh e
   exact⟨v,h1,hr v G H S.st h2⟩
  | ow xs=>
   obtain⟨a,vs,h1,h2,h3,h4⟩:=S.sl.ow e
   exact⟨.ref a,h1,hr a vs G H S.st (S.ow i _ a e rfl h1) h2 h3 h4⟩
theorem xO (he:ME X ad e f) (hs:swapsWith e none pos.line X.env=pure false):MS X ad Z (.Expr e pos) (sDrop f):=by
 refine PS.imp (gC he hs) ?_
 rintro D' σ H ⟨G₀,G,ρ,E,S,hx,hr⟩
 exact bO S hx hr fun v d G1 H1 st r k=>k σ G1 H1 (S.step st)
theorem SS.set {i:Nat} {d:D} {v:V} (S:SS X ad G₀ G H ρ σ) (r:Rep X.K ad G d v):SS X ad G₀ G H (ρ.set i (.sh d)) (σ.set i (some v)):=by
 have key: ∀ (j:Nat) (sl:Slot),(ρ.set i (.sh d))[j]? =some sl→(j=i∧sl= .sh d∧i<ρ.length)∨(j≠i∧ρ[j]? =some sl):=fun j sl e=>by
  by_cases z:j=i
  ·subst z
   have hl:j<ρ.length:=by have:=(List.getElem?_eq_some_iff.mp e).1;rwa [List.length_set] at this
   rw [List.getElem?_set_self hl] at e
   cases e
   exact .inl ⟨rfl,rfl,hl⟩
  ·rw [List.getElem?_set_ne (Ne.symm z)] at e
   exact .inr ⟨z,e⟩
 refine⟨S.st,⟨by rw [List.length_set,List.length_set];exact S.sl.len,fun j sl e=> ?_⟩,fun j xs a e w h=> ?_,fun j j' xs ys a e e' w w' h h'=> ?_⟩
 ·rcases key j sl e with ⟨rfl,rfl,hl⟩ | ⟨z,e⟩
  ·exact⟨some v,List.getElem?_set_self (by rw [←S.sl.len];exact hl),v,rfl,r⟩
  ·obtain⟨ov,h1,h2⟩:=S.sl.at_ j sl e
   exact⟨ov,by rw [List.getElem?_set_ne (Ne.symm z)];exact h1,h2⟩
 ·rcases key j _ e with ⟨_,z,_⟩ | ⟨z,e⟩
  ·subst z;exact(Bool.false_ne_true w).elim
  ·rw [List.getElem?_set_ne (Ne.symm z)] at h
   exact S.ow j xs a e w h
 ·rcases key j _ e with ⟨_,z,_⟩ | ⟨z,e⟩
  ·subst z;exact(Bool.false_ne_true w).elim
  ·rcases key j' _ e' with ⟨_,z',_⟩ | ⟨z',e'⟩
   ·subst z';exact(Bool.false_ne_true w').elim
   ·rw [List.getElem?_set_ne (Ne.symm z)] at h
    rw [List.getElem?_set_ne (Ne.symm z')] at h'
    exact S.dj j j' xs ys a e e' w w' h h'
theorem SL.own_at {K:PySem.W.Frag} {j:Nat} {sl:Slot} {p:Addr} (h:SL K ad G H ρ σ) (e:ρ[j]? =some sl) (w:sl.owns=true) (hj:σ[j]? =some (some (.ref p))):G p=none∧H p≠none:=by
 obtain⟨ov,h1,h2⟩:=h.at_ j sl e
 rw [hj] at h1
 cases h1
 cases sl with
 | no=>exact(Bool.false_ne_true w).elim
 | sh d=>exact(Bool.false_ne_true w).elim
 | sd d=>exact(Bool.false_ne_true w).elim
 | ow xs=>obtain⟨a,vs,k1,k2,k3,_⟩:=h2;cases k1;exact⟨k2,by rw [k3];exact fun z=>nomatch z⟩
 | dc xs=>obtain⟨a,vs,k1,k2,k3,_⟩:=h2;cases k1;exact⟨k2,by rw [k3];exact fun z=>nomatch z⟩
theorem SS.setNew {i:Nat} {sn:Slot} {p:Addr} {G1 H1:Hp} (S:SS X ad G₀ G H ρ σ) (st:Step G H G1 H1) (n:H p=none) (r:SLi X.K ad G1 H1 sn (some (.ref p))):
  SS X ad G₀ G1 H1 (ρ.set i sn) (σ.set i (some (.ref p))):=by
 have S1:=S.step st
 have key: ∀ (j:Nat) (sl:Slot),(ρ.set i sn)[j]? =some sl→(j=i∧sl=sn∧i<ρ.length)∨(j≠i∧ρ[j]? =some sl):=fun j sl e=>by
  by_cases z:j=i
  ·subst z
   have hl:j<ρ.length:=by have:=(List.getElem?_eq_some_iff.mp e).1;rwa [List.length_set] at this
   rw [List.getElem?_set_self hl] at e
   cases e
   exact .inl ⟨rfl,rfl,hl⟩
  ·rw [List.getElem?_set_ne (Ne.symm z)] at e
   exact .inr ⟨z,e⟩
 -- no other slot holds the new list
 have other: ∀ (j:Nat) (sl:Slot),ρ[j]? =some sl→sl.owns=true→σ[j]? ≠some (some (.ref p)):=fun j sl ej w hj=>(S.sl.own_at ej w hj).2 n
 refine⟨S1.st,⟨by rw [List.length_set,List.length_set];exact S.sl.len,fun j sl e'=> ?_⟩,fun j ys a e' w h=> ?_,fun j j' ys zs a e1 e2 w1 w2 h1 h2=> ?_⟩
 ·rcases key j sl e' with ⟨q1,q2,hl⟩ | ⟨z,e'⟩
  ·rw [q1,q2]
   exact⟨some (.ref p),List.getElem?_set_self (by rw [←S.sl.len];exact hl),r⟩
  ·obtain⟨ov,h1,h2⟩:=S1.sl.at_ j sl e'
   exact⟨ov,by rw [List.getElem?_set_ne (Ne.symm z)];exact h1,h2⟩
 ·rcases key j _ e' with ⟨q1,_,hl⟩ | ⟨z,e'⟩
  ·rw [q1,List.getElem?_set_self (by rw [←S.sl.len];exact hl)] at h
   cases h
   exact S.st.sh.free n
  ·rw [List.getElem?_set_ne (Ne.symm z)] at h
   exact S.ow j ys a e' w h
 ·rcases key j _ e1 with ⟨q1,_,hl⟩ | ⟨z,f1⟩
  ·rcases key j' _ e2 with ⟨q2,_,_⟩ | ⟨z',f2⟩
   ·rw [q1,q2]
   ·rw [q1,List.getElem?_set_self (by rw [←S.sl.len];exact hl)] at h1
    cases h1
    rw [List.getElem?_set_ne (Ne.symm z')] at h2
    exact absurd h2 (other j' zs f2 w2)
  ·rcases key j' _ e2 with ⟨q2,_,hl⟩ | ⟨z',f2⟩
   ·rw [q2,List.getElem?_set_self (by rw [←S.sl.len];exact hl)] at h2
    cases h2
    rw [List.getElem?_set_ne (Ne.symm z)] at h1
    exact absurd h1 (other j ys f1 w1)
   ·rw [List.getElem?_set_ne (Ne.symm z)] at h1
    rw [List.getElem?_set_ne (Ne.symm z')] at h2
    exact S.dj j j' ys zs a f1 f2 w1 w2 h1 h2
theorem SS.setOw {i:Nat} {xs:List D} {p:Addr} {vs:List V} {G1 H1:Hp} (S:SS X ad G₀ G H ρ σ) (st:Step G H G1 H1) (n:H p=none) (m:G1 p=none) (e:H1 p=some (.lst vs)) (r:Reps X.K ad G1 xs vs):
  SS X ad G₀ G1 H1 (ρ.set i (.ow xs)) (σ.set i (some (.ref p))):=S.setNew st n ⟨p,vs,rfl,m,e,r⟩
theorem aBa {i:Nat} (S:SS X ad G₀ G H ρ σ) (hx:XA X ad Z E) (hr:OKo X ad G₀ (sOwn i f ρ) D' E):tE X ad f σ H fun v H1=>D'.nx (σ.set i (some v)) H1:=by
 refine⟨G,ρ,E σ,S.st.gh,S.sl,hx.1 σ, ?_⟩
 unfold sOwn at hr
 cases e:f ρ with
 | ok d=>rw [e] at hr;exact fun v G1 H1 st r=>hr _ G1 H1 ((S.step st).set r)
 | ow xs=>rw [e] at hr;exact fun p vs G1 H1 st n m e' r=>hr _ G1 H1 (S.setOw st n m e' r)
 | ex c=>rw [e] at hr;exact fun G1 H1 st=>hr σ G1 H1 (S.step st)
 | bad=>rw [e] at hr;exact hr
theorem aDh {c:Expr} {a b:List Stmt} (hc:MT X ad c f) (ha:MSs X ad Z a g) (hb:MSs X ad Z b h):MS X ad Z (.If c a b pos) (sIf f g h):=by
 refine PS.imp (aC4 hc ha hb) ?_
 rintro D' σ H ⟨G₀,G,ρ,E,S,hx,hr⟩
 unfold sIf at hr
 cases e:f ρ with
 | ok d=>
  rw [e] at hr
  cases d<;>try exact hr.elim
  rename_i k
  refine⟨G,ρ,E σ,S.st.gh,S.sl,hx.1 σ, .inl ⟨k,e⟩, ?_⟩
  rw [e]
  intro v G1 H1 st r
  unfold Rep at r;subst r
  refine⟨k,rfl, ?_⟩
  cases k with
  | true=>exact iteT ⟨G₀,G1,ρ,E,S.step st,hx,hr⟩
  | false=>exact iteF ⟨G₀,G1,ρ,E,S.step st,hx,hr⟩
 | ow xs=>rw [e] at hr;exact hr.elim
 | ex k=>
  rw [e] at hr
  refine⟨G,ρ,E σ,S.st.gh,S.sl,hx.1 σ, .inr ⟨k,e⟩, ?_⟩
  rw [e]
  exact fun G1 H1 st=>hr σ G1 H1 (S.step st)
 | bad=>rw [e] at hr;exact hr.elim
theorem SS.shareG {i:Nat} {sl₀ sn:Slot} {a:Addr} {o:HO} (S:SS X ad G₀ G H ρ σ) (e:ρ[i]? =some sl₀) (w₀:sl₀.owns=true) (h1:σ[i]? =some (some (.ref a))) (h3:H a=some o) (hst:Step G₀ X.H₀ (upd G a o) H) (wn:sn.owns=false)
  (r:SLi X.K ad (upd G a o) H sn (some (.ref a))):SS X ad G₀ (upd G a o) H (ρ.set i sn) σ:=by
 have h2:G a=none:=(S.sl.own_at e w₀ h1).1
 have le:Same G (upd G a o):=Same.upd_new h2
 have hl:i<ρ.length:=(List.getElem?_eq_some_iff.mp e).1
 have key: ∀ (j:Nat) (sl:Slot),(ρ.set i sn)[j]? =some sl→(j=i∧sl=sn)∨(j≠i∧ρ[j]? =some sl):=fun j sl e=>by
  by_cases z:j=i
  ·subst z
   rw [List.getElem?_set_self hl] at e
   cases e
   exact .inl ⟨rfl,rfl⟩
  ·rw [List.getElem?_set_ne (Ne.symm z)] at e
   exact .inr ⟨z,e⟩
 refine⟨hst,⟨by show(ρ.set i _).length=_;rw [List.length_set];exact S.sl.len,fun j sl e'=> ?_⟩,fun j ys b e' w h=> ?_,fun j j' ys zs b e1 e2 w1 w2 k1 k2=> ?_⟩
 ·rcases key j sl e' with ⟨q1,q2⟩ | ⟨z,e'⟩
  ·rw [q1,q2]
   exact⟨some (.ref a),h1,r⟩
  ·obtain⟨ov,k1,k2⟩:=S.sl.at_ j sl e'
   refine⟨ov,k1, ?_⟩
   cases sl with
   | no=>trivial
   | sh d=>obtain⟨v,k3,k4⟩:=k2;exact⟨v,k3,k4.mono le⟩
   | ow ys=>
    obtain⟨b,ws,k3,k4,k5,k6⟩:=k2
    have ne:b≠a:=fun q=>by
     subst q
     subst k3
     exact z (S.dj j i _ _ b e' e rfl w₀ k1 h1)
    exact⟨b,ws,k3,by rw [aF ne];exact k4,k5,k6.mono le⟩
   | dc ys=>
    obtain⟨b,ws,k3,k4,k5,k6,k7⟩:=k2
    have ne:b≠a:=fun q=>by
     subst q
     subst k3
     exact z (S.dj j i _ _ b e' e rfl w₀ k1 h1)
    exact⟨b,ws,k3,by rw [aF ne];exact k4,k5,k6.mono le,k7⟩
   | sd ys=>
    obtain⟨b,ws,k3,k4,k5,k6,k7⟩:=k2
    exact⟨b,ws,k3,le _ _ k4,k5,k6.mono le,k7⟩
 ·rcases key j _ e' with ⟨_,z⟩ | ⟨z,e'⟩
  ·rw [z,wn] at w;exact(Bool.false_ne_true w).elim
  ·exact S.ow j ys b e' w h
 ·rcases key j _ e1 with ⟨_,z⟩ | ⟨z,e1⟩
  ·rw [z,wn] at w1;exact(Bool.false_ne_true w1).elim
  ·rcases key j' _ e2 with ⟨_,z'⟩ | ⟨z',e2⟩
   ·rw [z',wn] at w2;exact(Bool.false_ne_true w2).elim
   ·exact S.dj j j' ys zs b e1 e2 w1 w2 k1 k2
theorem SS.frz1 {i:Nat} (S:SS X ad G₀ G H ρ σ): ∃ G',SS X ad G₀ G' H (SK.frz1 i ρ) σ∧Same G G':=by
 unfold SK.frz1
 cases e:ρ[i]? with
 | none=>exact⟨G,S,Same.refl _⟩
 | some sl=>
  cases sl with
  | no=>exact⟨G,S,Same.refl _⟩
  | sd d=>exact⟨G,S,Same.refl _⟩
  | sh d=>exact⟨G,S,Same.refl _⟩
  | dc kvs=>
   obtain⟨a,es,h1,h2,h3,h4,h5⟩:=S.sl.dc e
   have le:Same G (upd G a (dcO a es)):=Same.upd_new h2
   exact⟨_,S.shareG e rfl h1 h3 (S.st.shareO (S.ow i _ a e rfl h1) h2 h3) rfl ⟨a,es,rfl,aH,h3,h4.mono le,h5⟩,le⟩
  | ow xs=>
   obtain⟨a,vs,h1,h2,h3,h4⟩:=S.sl.ow e
   have le:Same G (upd G a (.lst vs)):=Same.upd_new h2
   exact⟨_,S.shareG e rfl h1 h3 (S.st.share (S.ow i _ a e rfl h1) h2 h3) rfl ⟨.ref a,rfl,by unfold Rep;exact⟨a,vs,rfl,SqL.of aH,h4.mono le⟩⟩,le⟩
theorem SS.frz {is:List Nat}: ∀ {ρ:Rho} {G:Hp},SS X ad G₀ G H ρ σ→ ∃ G',SS X ad G₀ G' H (SK.frz is ρ) σ∧Same G G':=by
 induction is with
 | nil=>intro ρ G S;exact⟨G,S,Same.refl _⟩
 | cons i is ih=>
  intro ρ G S
  obtain⟨G1,S1,l1⟩:=S.frz1 (i:=i)
  obtain⟨G2,S2,l2⟩:=ih S1
  exact⟨G2,S2,l1.trans l2⟩
theorem bP {is:List Nat} (h1:MS X ad Z st g):MS X ad Z st (withFrz is g):=by
 cases is with
 | nil=>exact h1
 | cons i is=>
  refine PS.imp h1 ?_
  rintro D' σ H ⟨G₀,G,ρ,E,S,hx,hr⟩
  obtain⟨G',S',_⟩:=S.frz (is:=i::is)
  exact⟨G₀,G',_,E,S',hx,hr⟩
end
section
variable {X:Cx} {ad:Ad} {Z:(St→Nat→Hp→Prop)→Prop} {pins:List (Addr×Obj)} {s:Shared} {σ:St} {H G G₀:Hp} {ρ:Rho} {D':Ends} {E:St→Nat→Hp→Prop} {pos pos':Pos} {e:Expr} {f:F} {g h:FS} {st:Stmt} {sts:List Stmt}
theorem SS.updG {i:Nat} {sl₀ sn:Slot} {a:Addr} {o:HO} (S:SS X ad G₀ G H ρ σ) (e:ρ[i]? =some sl₀) (w₀:sl₀.owns=true) (h1:σ[i]? =some (some (.ref a))) (r:SLi X.K ad G (upd H a o) sn (some (.ref a))):SS X ad G₀ G (upd H a o) (ρ.set i sn) σ:=by
 have n0:X.H₀ a=none:=S.ow i sl₀ a e w₀ h1
 have h2:G a=none:=(S.sl.own_at e w₀ h1).1
 have hl:i<ρ.length:=(List.getElem?_eq_some_iff.mp e).1
 have key: ∀ (j:Nat) (sl:Slot),(ρ.set i sn)[j]? =some sl→(j=i∧sl=sn)∨(j≠i∧ρ[j]? =some sl):=fun j sl e=>by
  by_cases z:j=i
  ·subst z
   rw [List.getElem?_set_self hl] at e
   cases e
   exact .inl ⟨rfl,rfl⟩
  ·rw [List.getElem?_set_ne (Ne.symm z)] at e
   exact .inr ⟨z,e⟩
 refine⟨iZ S.st n0 h2,⟨by rw [List.length_set];exact S.sl.len,fun j sl e'=> ?_⟩,fun j zs b e' w h=> ?_,fun j j' zs zs' b e1 e2 w1 w2 k1 k2=> ?_⟩
 ·rcases key j sl e' with ⟨q1,q2⟩ | ⟨z,f1⟩
  ·rw [q1,q2]
   exact⟨some (.ref a),h1,r⟩
  ·obtain⟨ov,k1,k2⟩:=S.sl.at_ j sl f1
   refine⟨ov,k1, ?_⟩
   cases sl with
   | no=>trivial
   | sh d=>exact k2
   | ow zs=>
    obtain⟨b,vs',k3,k4,k5,k6⟩:=k2
    have ne:b≠a:=fun q=>by
     subst q
     subst k3
     exact z (S.dj j i _ _ b f1 e rfl w₀ k1 h1)
    exact⟨b,vs',k3,k4,by rw [aF ne];exact k5,k6⟩
   | dc zs=>
    obtain⟨b,vs',k3,k4,k5,k6⟩:=k2
    have ne:b≠a:=fun q=>by
     subst q
     subst k3
     exact z (S.dj j i _ _ b f1 e rfl w₀ k1 h1)
    exact⟨b,vs',k3,k4,by rw [aF ne];exact k5,k6⟩
   | sd zs=>
    obtain⟨b,vs',k3,k4,k5,k6⟩:=k2
    have ne:b≠a:=fun q=>by
     rw [q] at k4
     rw [h2] at k4
     cases k4
    exact⟨b,vs',k3,k4,by rw [aF ne];exact k5,k6⟩
 ·rcases key j _ e' with ⟨q1,q2⟩ | ⟨z,f1⟩
  ·rw [q1,h1] at h
   cases h
   exact n0
  ·exact S.ow j zs b f1 w h
 ·rcases key j _ e1 with ⟨q1,_⟩ | ⟨z,f1⟩
  ·rcases key j' _ e2 with ⟨q2,_⟩ | ⟨z',f2⟩
   ·rw [q1,q2]
   ·rw [q1] at k1 ⊢
    exact S.dj i j' _ zs' b e f2 w₀ w2 k1 k2
  ·rcases key j' _ e2 with ⟨q2,_⟩ | ⟨z',f2⟩
   ·rw [q2] at k2 ⊢
    exact S.dj j i zs _ b f1 e w1 w₀ k1 k2
   ·exact S.dj j j' zs zs' b f1 f2 w1 w2 k1 k2
theorem SS.upd {i:Nat} {xs ys:List D} {a:Addr} {ws:List V} (S:SS X ad G₀ G H ρ σ) (e:ρ[i]? =some (.ow xs)) (h1:σ[i]? =some (some (.ref a))) (h2:G a=none) (r:Reps X.K ad G ys ws):SS X ad G₀ G (L2.upd H a (.lst ws)) (ρ.set i (.ow ys)) σ:=
 S.updG e rfl h1 ⟨a,ws,rfl,h2,aH,r⟩
theorem cI {cpos:Pos} (hs:starEach [e] X.env=(false,eval e X.env)::starEach [] X.env):((backTo cpos (starEach [e] X.env)).all (fun x=> !x.1)&&(backToKw cpos (keywordEach [] X.env)).all (fun x=>x.1.isSome)
   &&decide ([e].length+([]:List Keyword).length+(if([]:List Keyword).isEmpty then 0 else 1)<30))=true:=by
 rw [hs]
 rfl
theorem aBb {i:Nat} {x:Str} {p ap cp:Pos} (hN:X.N[i]? =some x) (hv:Vis X.env.scope x) (hd:(x==("__debug__":Str))=false) (hcd:(x==("__classdict__":Str))=false) (he:ME X ad e f) (hs:starEach [e] X.env=(false,eval e X.env)::starEach [] X.env)
  (hline:(ap.endLine==cp.line)=true):MS X ad Z (.Expr (.Call (.Attribute (.Name x p) "append" ap) [e] [] cp) pos) (sApp i f):=by
 refine PS.imp (gC (wS (T:="list") PySem.F.plainAttrs_list PySem.F.slot_list_append PySem.F.type_list_append iQ (bL hN hv hd hcd) (aR he bN hs) rfl (cI hs) hline hs rfl) rfl) ?_
 rintro D' σ H ⟨G₀,G,ρ,E,S,hx,hr⟩
 unfold sApp at hr
 cases q:ρ[i]? with
 | none=>rw [q] at hr;exact hr.elim
 | some sl=>
  rw [q] at hr
  cases sl with
  | no=>exact hr.elim
  | sh d=>exact hr.elim
  | dc d=>exact hr.elim
  | sd d=>exact hr.elim
  | ow xs=>
   obtain⟨a,vs,h1,h2,h3,h4⟩:=S.sl.ow q
   refine⟨.ref a,h1, .inl ⟨rfl,vs,SqL.of h3⟩, ?_⟩
   refine bO S hx hr fun v d G1 H1 st r k=> ?_
   obtain⟨g1,h1'⟩:=aZ st h2 h3
   have k':OKo X ad G₀ (if xs.length<LIM then .nx (ρ.set i (.ow (xs++[d]))) else .rt .bad) D' E:=k
   by_cases hc:xs.length<LIM
   ·rw [if_pos hc] at k'
    have r4:=h4.mono st.sg
    refine⟨a,vs,v,rfl,rfl,h1', ?_,k' σ G1 _ ((S.step st).upd q h1 g1 (r4.append (Reps.cons r Reps.nil)))⟩
    rw [h4.length]
    exact Nat.lt_of_lt_of_le hc (by decide)
   ·rw [if_neg hc] at k'
    exact k'.elim
noncomputable def rExt (K:PySem.W.Frag):V→List V→Hp→VK→Prop:=fun x vs H Q=> ∃ l b xs zs,x= .ref l∧vs=[.ref b]∧H l=some (.lst xs)∧SqL K H b zs∧xs.length+zs.length≤sizeLine∧Q .non (upd H l (.lst (xs++zs)))
theorem aBc:MtM X "list.extend" (rExt X.K):=by
 intro pins s σ H x vs v us Q I rx rv h
 obtain⟨l,b,xs,zs,rfl,rfl,hH,hB,hz,q⟩:=h
 cases rx
 obtain⟨u,rfl,ru⟩:=rv.one
 cases ru
 obtain⟨z,its,n,r,hl,e⟩:=I.lstM hH
 obtain⟨its2,r2,⟨⟨cls2,dd2,data2,sl2⟩,n2,e2,hc2,hdd2,hd2⟩,_⟩:=I.list hB
 simp only at hc2 hd2 hdd2
 subst hc2 hd2
 have hl2:=r2.length
 have hsz:its.toArray.size+its2.toArray.size≤sizeLine:=by rw [List.size_toArray,List.size_toArray];omega
 have hlong: ¬ (!its.toArray.isEmpty&&Builtin.List.listTooLong (its.toArray.size+its2.toArray.size))=true:=by
  rw [lH hsz,Bool.and_false]
  exact Bool.false_ne_true
 refine call_meets F.slot_list_extend ⟨_,e,rfl⟩ F.entry_list_extend (F.args_list_extend_2 _ _)
  (iS l its.toArray n b its2.toArray n2 dd2 sl2 hlong (by rw [List.size_toArray];omega) (by omega)) ⟨e,e2, ?_⟩
 refine⟨.non,_,I.lset (its':=its++its2) hH e (by simp) (r.append r2) ?_,rfl,q⟩
 rw [List.length_append]
 omega
theorem aBd {i:Nat} {x:Str} {p ap cp:Pos} (hN:X.N[i]? =some x) (hv:Vis X.env.scope x) (hd:(x==("__debug__":Str))=false) (hcd:(x==("__classdict__":Str))=false) (he:ME X ad e f) (hs:starEach [e] X.env=(false,eval e X.env)::starEach [] X.env)
  (hline:(ap.endLine==cp.line)=true):MS X ad Z (.Expr (.Call (.Attribute (.Name x p) "extend" ap) [e] [] cp) pos) (sExt i f):=by
 refine PS.imp (gC (wS (T:="list") PySem.F.plainAttrs_list PySem.F.slot_list_extend PySem.F.type_list_extend aBc (bL hN hv hd hcd) (aR he bN hs) rfl (cI hs) hline hs rfl) rfl) ?_
 rintro D' σ H ⟨G₀,G,ρ,E,S,hx,hr⟩
 unfold sExt at hr
 cases q:ρ[i]? with
 | none=>rw [q] at hr;exact hr.elim
 | some sl=>
  rw [q] at hr
  cases sl with
  | no=>exact hr.elim
  | sh d=>exact hr.elim
  | dc d=>exact hr.elim
  | sd d=>exact hr.elim
  | ow xs=>
   obtain⟨a,vs,h1,h2,h3,h4⟩:=S.sl.ow q
   refine⟨.ref a,h1, .inl ⟨rfl,vs,SqL.of h3⟩, ?_⟩
   refine bO S hx hr fun v d G1 H1 st r k=> ?_
   obtain⟨g1,h1'⟩:=aZ st h2 h3
   cases d<;>try exact False.elim k
   rename_i ys
   have k':OKo X ad G₀ (if xs.length+ys.length≤LIM then .nx (ρ.set i (.ow (xs++ys))) else .rt .bad) D' E:=k
   by_cases hc:xs.length+ys.length≤LIM
   ·rw [if_pos hc] at k'
    have r4:=h4.mono st.sg
    unfold Rep at r
    obtain⟨b,ws,rfl,hq,rq⟩:=r
    refine⟨a,b,vs,ws,rfl,rfl,h1',st.gh.seq hq, ?_,k' σ G1 _ ((S.step st).upd q h1 g1 (r4.append rq))⟩
    rw [h4.length,rq.length]
    exact Nat.le_trans hc (by decide)
   ·rw [if_neg hc] at k'
    exact k'.elim
structure ItG (X:Cx) (ad:Ad) (J:It) (G:Hp) (ds:List D):Prop where
 go: ∀ (i:Nat) (G1 H1:Hp) (d:D),Same G G1→Same G1 H1→ds[i]? =some d→J.go i H1∧ ∀ x H2,J.yld i H1 x H2→ ∃ G2,Step G1 H1 G2 H2∧Rep X.K ad G2 d x
 stop: ∀ (G1 H1:Hp),Same G G1→Same G1 H1→J.stop ds.length H1
def IGK (X:Cx) (ad:Ad) (G H:Hp) (r:R) (W:It→Hp→Prop) (E:Nat→Hp→Prop):Prop:=match r with
 | .ok d=> ∃ ds,items d=some ds∧ ∀ J G' H',Step G H G' H'→ItG X ad J G' ds→W J H'
 | .ow xs=> ∀ J G' H',Step G H G' H'→ItG X ad J G' xs→W J H'
 | .ex c=> ∀ G' H',Step G H G' H'→E c H'
 | .bad=>False
noncomputable def tIG (X:Cx) (ad:Ad) (f:F):TI:=fun σ H W=> ∃ G ρ E,Same G H∧SL X.K ad G H ρ σ∧XP X ad σ E∧IGK X ad G H (f ρ) W E
abbrev MIG (X:Cx) (ad:Ad) (tg e:Expr) (f:F):Prop:=PI X tg e (tIG X ad f)
theorem xP {a:Addr} {vs:List V} {ds:List D} (hq:SqT X.K G a vs) (r:Reps X.K ad G ds vs):ItG X ad (Itt X.K a) G ds:=by
 refine⟨fun i G1 H1 d s1 s2 e=> ?_,fun G1 H1 s1 s2=>⟨vs,s2.seqT (s1.seqT hq),by rw [r.length];exact Nat.le_refl _⟩⟩
 obtain⟨v,e1,r1⟩:=r.get e
 refine⟨⟨vs,v,s2.seqT (s1.seqT hq),e1⟩, ?_⟩
 rintro x H2 ⟨rfl,y⟩
 have:=y vs (s2.seqT (s1.seqT hq))
 rw [e1] at this
 cases this
 exact⟨G1,Step.refl s2,r1.mono s1⟩
theorem xQ {a:Addr} {vs:List V} {ds:List D} (hq:SqL X.K G a vs) (r:Reps X.K ad G ds vs):ItG X ad (Itl X.K a) G ds:=by
 refine⟨fun i G1 H1 d s1 s2 e=> ?_,fun G1 H1 s1 s2=>⟨vs,s2.seq (s1.seq hq),by rw [r.length];exact Nat.le_refl _⟩⟩
 obtain⟨v,e1,r1⟩:=r.get e
 refine⟨⟨vs,v,s2.seq (s1.seq hq),e1⟩, ?_⟩
 rintro x H2 ⟨rfl,y⟩
 have:=y vs (s2.seq (s1.seq hq))
 rw [e1] at this
 cases this
 exact⟨G1,Step.refl s2,r1.mono s1⟩
theorem xR {lo:Int} {n:Nat}:ItG X ad (Itr lo n) G ((List.range n).map fun(i:Nat)=>D.int (lo+(i:Int))):=by
 refine⟨fun i G1 H1 d s1 s2 e=> ?_,fun G1 H1 s1 s2=>by simp [Itr]⟩
 rw [List.getElem?_map] at e
 cases q:(List.range n)[i]? with
 | none=>rw [q] at e;cases e
 | some j=>
  rw [q] at e
  obtain⟨hi,hj⟩:=List.getElem?_eq_some_iff.mp q
  rw [List.length_range] at hi
  rw [List.getElem_range] at hj
  subst hj
  cases e
  refine⟨hi, ?_⟩
  rintro x H2 ⟨rfl,rfl⟩
  exact⟨G1,Step.refl s2,aD⟩
theorem eR {tg a:Expr} {f:F} (ha:ME X ad a f):MIG X ad tg a f:=by
 intro pins s σ H W I ⟨G,ρ,E,hG,hS,hx,hr⟩
 have key: ∀ (d:D) (ds:List D),items d=some ds→(∀ J G' H',Step G H G' H'→ItG X ad J G' ds→W J H')→ ∀ u s1 v H1 G1,Inv X pins σ H1 s1→RelV v u→Step G H G1 H1→Rep X.K ad G1 d v→wpAny (model X.prog X.w) X.A (pyIter u) (PIE X pins σ tg W) X.xe s1:=by
  intro d ds e hw u s1 v H1 G1 I1 r1 st q
  obtain⟨p,vs,rfl,hq,rq⟩:=eL e q
  cases (show u=Value.ref p from r1)
  rcases hq with hq | hq
  ·obtain⟨its,rv,pt,hz⟩:=I1.tuple (st.gh.seqT hq)
   refine wpAny_pyIter_tuple (show s1.heap.IsTuple p its.toArray from pt) ?_
   refine⟨s1.heap.objs.size,[s1.heap.objs.size],_,_,H1,rfl,I1.kept (t':=s1.toks) fun b o e=>Heap.get?_push_of_some _ e,fH p _,⟨_,Heap.get?_push_size _ rfl,rfl,rfl⟩,fun b hb=> ?_,hw _ G1 H1 st (xP hq rq)⟩
   have e:b=s1.heap.objs.size:=by simpa using hb
   subst e
   exact I1.fpOk (Nat.le_refl _) (I1.hok.fresh (Nat.le_refl _))
  ·obtain⟨its,rv,pt,hz⟩:=I1.list (st.gh.seq hq)
   refine wpAny_pyIter_list pt.isList ?_
   refine⟨s1.heap.objs.size,[s1.heap.objs.size],_,_,H1,rfl,I1.kept (t':=s1.toks) fun b o e=>Heap.get?_push_of_some _ e,iF p _,⟨_,Heap.get?_push_size _ rfl,rfl,rfl⟩,fun b hb=> ?_,hw _ G1 H1 st (xQ hq rq)⟩
   have e:b=s1.heap.objs.size:=by simpa using hb
   subst e
   exact I1.fpOk (Nat.le_refl _) (I1.hok.fresh (Nat.le_refl _))
 cases e:f ρ with
 | ok d=>
  rw [e] at hr
  obtain⟨ds,e2,hw⟩:=hr
  exact L2.thn (ha pins s σ H (fun v H1=> ∃ G1,Step G H G1 H1∧Rep X.K ad G1 d v) I ⟨G,ρ,E,hG,hS,hx,by rw [e];exact fun v G1 H1 st q=>⟨G1,st,q⟩⟩) fun u s1 ⟨v,H1,I1,r1,G1,st,q⟩=>key d ds e2 hw u s1 v H1 G1 I1 r1 st q
 | ow l=>
  rw [e] at hr
  exact L2.thn (ha pins s σ H (fun v H1=> ∃ G1,Step G H G1 H1∧Rep X.K ad G1 (.lst l) v) I ⟨G,ρ,E,hG,hS,hx,by rw [e];exact fun p vs G1 H1 st n m e' q=>aS st n m e' q⟩) fun u s1 ⟨v,H1,I1,r1,G1,st,q⟩=>key (.lst l) l rfl hr u s1 v H1 G1 I1 r1 st q
 | ex c=>
  rw [e] at hr
  exact L2.thn (ha pins s σ H (fun v H1=>False) I ⟨G,ρ,E,hG,hS,hx,by rw [e];exact hr⟩) fun u s1 ⟨v,H1,I1,r1,q⟩=>q.elim
 | bad=>
  rw [e] at hr
  exact False.elim hr
theorem o8 {tg a:Expr} {f:F} {p:Pos} (hg:L2.Gl X "range") (hm:X.mg "range"=none) (ha:ME X ad a f) (hs:starEach [a] X.env=(false,eval a X.env)::starEach [] X.env):MIG X ad tg (.Call (.Name "range" p) [a] [] pos) (iRange f):=by
 intro pins s σ H W I ⟨G,ρ,E,hG,hS,hx,hr⟩
 refine iG (ta:=tCons (tE X ad f) tNil) hg hm (aR ha bN hs) hs pins s σ H W I ?_
 show tE X ad f σ H fun v H1=> ∃ j:Int,[v]=[.int j]∧ -(2 ^ 62)≤j∧j<2 ^ 62∧W (Itr 0 j.toNat) H1
 refine⟨G,ρ,E,hG,hS,hx, ?_⟩
 unfold iRange at hr
 cases e:f ρ with
 | ok d=>
  rw [e] at hr
  cases d<;>try exact False.elim hr
  rename_i i
  have k':IGK X ad G H (if -100000≤i∧i≤100000 then .ok (.lst (rngD i.toNat)) else .bad) W E:=hr
  by_cases hc: -100000≤i∧i≤100000
  ·rw [if_pos hc] at k'
   obtain⟨ds,e,hw⟩:=k'
   cases e
   intro v G1 H1 st r
   unfold Rep at r;subst r
   refine⟨i,rfl,by omega,by omega,hw _ G1 H1 st ?_⟩
   rw [o6]
   exact xR
  ·rw [if_neg hc] at k'
   exact k'.elim
 | ow l=>rw [e] at hr;exact False.elim hr
 | ex c=>rw [e] at hr;exact hr
 | bad=>rw [e] at hr;exact hr
end
noncomputable def gIs:List Nat→TGs
 | []=>gNil
 | i::is=>gCons (gName i) (gIs is)
noncomputable def setIs:List Nat→List V→St→St
 | i::is,v::vs,σ=>setIs is vs (σ.set i (some v))
 | _,_,σ=>σ
theorem o9: ∀ {is:List Nat} {vs:List V} {σ:St} {H:Hp} {Q:St→Hp→Prop},vs.length=is.length→Q (setIs is vs σ) H→gIs is vs σ H Q
 | [],[],_,_,_,_,h=>⟨rfl,h⟩
 | i::is,v::vs,σ,H,Q,e,h=>⟨v,vs,rfl,o9 (is:=is) (vs:=vs) (by simpa using e) h⟩
 | [],_::_,_,_,_,e,_=>by simp at e
 | _::_,[],_,_,_,e,_=>by simp at e
noncomputable def gTs (K:PySem.W.Frag) (k:Nat) (is:List Nat):TG:=match k,is with
 | 0,[i]=>gName i
 | k,is=>gTup K is.length (gIs is)
def NmOk (X:Cx) (x:Str) (i:Nat):Prop:=X.N[i]? =some x∧Loc X.env.scope x∧(X.fn x=true∨X.env.scope.names.lookup x=some .local)
inductive NmsOk (X:Cx):List Str→List Nat→Prop
 | nil:NmsOk X [] []
 | cons {x:Str} {i:Nat} {xs:List Str} {is:List Nat}:NmOk X x i→NmsOk X xs is→NmsOk X (x::xs) (i::is)
section
variable {X:Cx} {ad:Ad} {Z:(St→Nat→Hp→Prop)→Prop} {pins:List (Addr×Obj)} {s:Shared} {σ:St} {H G G₀:Hp} {ρ:Rho} {D':Ends} {E:St→Nat→Hp→Prop} {pos pos':Pos} {e it tg:Expr} {f:F} {g h:FS} {st:Stmt} {body:List Stmt}
theorem NmsOk.len: ∀ {xs:List Str} {is:List Nat},NmsOk X xs is→is.length=xs.length
 | _,_, .nil=>rfl
 | _,_, .cons _ h=>by simp [NmsOk.len h]
theorem pC (hN:X.N.Nodup): ∀ {es:List Expr} {xs:List Str} {is:List Nat},mapO (fun(e:Expr)=>match e with | .Name x _=>some x | _=>none) es=some xs→NmsOk X xs is→PGs X es (gIs is)
 | [],xs,is,e,h=>by
  cases e
  cases h
  exact oA
 | a::es,xs,is,e,h=>by
  unfold mapO at e
  cases a<;>try (cases e)
  rename_i x px
  simp only at e
  obtain⟨r,e1,e2⟩:=zMd e
  subst e2
  cases h with
  | cons h1 h2=>exact lE (eI hN h1.1 h1.2.1 h1.2.2) (pC hN e1 h2) rfl
theorem dP: ∀ {es:List Expr} {xs:List Str},mapO (fun(e:Expr)=>match e with | .Name x _=>some x | _=>none) es=some xs→(assignEach es X.env).length=xs.length∧(assignEach es X.env).findIdx? (·.1)=none
 | [],xs,e=>by cases e;exact⟨rfl,rfl⟩
 | a::es,xs,e=>by
  unfold mapO at e
  cases a<;>try (cases e)
  rename_i x px
  simp only at e
  obtain⟨r,e1,e2⟩:=zMd e
  subst e2
  obtain⟨h1,h2⟩:=dP e1
  have q:assignEach (.Name x px::es) X.env=(false,assign (.Name x px) X.env)::assignEach es X.env:=rfl
  rw [q]
  refine⟨by simp [h1], ?_⟩
  rw [List.findIdx?_cons]
  simp [h2]
theorem aBe {xs:List Str} {k:Nat} {is:List Nat} (hc:X.calm=true) (hN:X.N.Nodup) (e:tgNames tg=some (xs,k)) (h:NmsOk X xs is):PG X tg (gTs X.K k is)∧(k=0∧is.length=1∨k≠0∧k=is.length):=by
 cases tg<;>try (cases e)
 ·rename_i x px
  cases h with
  | cons h1 h2=>
   cases h2
   exact⟨eI hN h1.1 h1.2.1 h1.2.2, .inl ⟨rfl,rfl⟩⟩
 ·rename_i es j px
  unfold tgNames at e
  obtain⟨ys,e1,e2⟩:=zBd e
  by_cases hl:2≤ys.length
  ·rw [if_pos hl] at e2
   cases e2
   obtain⟨q1,q2⟩:=dP (X:=X) e1
   have hk:=h.len
   refine⟨?_, .inr ⟨by omega,hk.symm⟩⟩
   have P:=u9 (pos:=px) (k:=j) (n:=is.length) hc (pC hN e1 h) (by rw [q1,hk]) q2
   have:gTs X.K xs.length is=gTup X.K is.length (gIs is):=by
    unfold gTs
    cases is with
    | nil=>simp at hk;omega
    | cons i is=>
     cases hx:xs.length with
     | zero=>omega
     | succ n=>rfl
   rw [this]
   exact P
  ·rw [if_neg hl] at e2
   cases e2
theorem SS.setN: ∀ {is:List Nat} {ds:List D} {vs:List V} {ρ:Rho} {σ:St},SS X ad G₀ G H ρ σ→Reps X.K ad G ds vs→SS X ad G₀ G H (SK.setN is ds ρ) (setIs is vs σ)
 | [],ds,vs,ρ,σ,S,r=>by
  have e1:SK.setN [] ds ρ=ρ:=by cases ds<;>rfl
  have e2:setIs [] vs σ=σ:=by cases vs<;>rfl
  rw [e1,e2]
  exact S
 | i::is,[],vs,ρ,σ,S,r=>by
  unfold Reps at r
  subst r
  exact S
 | i::is,d::ds,vs,ρ,σ,S,r=>by
  unfold Reps at r
  obtain⟨v,vr,rfl,r1,r2⟩:=r
  exact SS.setN (is:=is) (ds:=ds) (vs:=vr) (ρ:=ρ.set i (.sh d)) (σ:=σ.set i (some v)) (S.set r1) r2
theorem vM {k:Nat} {is:List Nat} {d:D} {v:V} {ρ1:Rho} {Q:St→Hp→Prop} (hk:k=0∧is.length=1∨k≠0∧k=is.length) (e:tgtS is (k==0) d ρ=some ρ1) (S:SS X ad G₀ G H ρ σ) (r:Rep X.K ad G d v) (q: ∀ σ1,SS X ad G₀ G H ρ1 σ1→Q σ1 H):gTs X.K k is v σ H Q:=by
 rcases hk with ⟨rfl,h1⟩ | ⟨h1,h2⟩
 ·obtain⟨i,rfl⟩:=List.length_eq_one_iff.mp h1
  cases e
  exact q _ (S.set r)
 ·have hb:(k==0)=false:=by simpa using h1
  rw [hb] at e
  have e0:tgtS is false d ρ=match(generalizing:=false) d with | .tup ds=>if ds.length=is.length then some (SK.setN is ds ρ) else none | _=>none:=by
   cases is with
   | nil=>rfl
   | cons _ _=>rfl
  have e':=e0.symm.trans e
  have hg:gTs X.K k is=gTup X.K is.length (gIs is):=by
   unfold gTs
   cases k with
   | zero=>exact absurd rfl h1
   | succ k=>rfl
  rw [hg]
  cases d<;>try (cases e')
  rename_i ds
  simp only at e'
  by_cases hl:ds.length=is.length
  ·rw [if_pos hl] at e'
   cases e'
   unfold Rep at r
   obtain⟨a,vs,rfl,hq,rq⟩:=r
   exact⟨a,vs,rfl,S.st.gh.seqT hq,by rw [rq.length,hl],o9 (by rw [rq.length,hl]) (q _ (S.setN rq))⟩
  ·rw [if_neg hl] at e'
   cases e'
theorem xS {α:Type} {ds:List α} {i:Nat} {d:α} (e:ds[i]? =some d):ds.drop i=d::ds.drop (i+1):=by
 obtain⟨h,rfl⟩:=List.getElem?_eq_some_iff.mp e
 exact List.drop_eq_getElem_cons h
theorem lT {J:It} {G' H':Hp} {ds:List D} {k:Nat} {is:List Nat} (hk:k=0∧is.length=1∨k≠0∧k=is.length) (S:SS X ad G₀ G' H' ρ σ) (hx:XA X ad Z E) (it:ItG X ad J G' ds) (hr:OKo X ad G₀ (forGo (tgtS is (k==0)) g ds ρ) D' E):
  ∃ W:Nat→Nat→St→Hp→Prop,(∃ m,W 0 m σ H')∧ ∀ i m σ H,W i m σ H→
   (J.stop i H∧D'.nx σ H)∨(J.go i H∧ ∃ N:St→Hp→Prop,(∀ σ' H',N σ' H'→ ∃ m',m'<m∧W (i+1) m' σ' H')∧ ∀ x H',J.yld i H x H'→gTs X.K k is x σ H' fun σ2 H2=>tS X ad Z g { D' with nx:=N,ct:=N,bk:=D'.nx } σ2 H2):=by
 refine⟨fun i m σ H=>m=ds.length - i∧i≤ds.length∧ ∃ G ρ,SS X ad G₀ G H ρ σ∧Same G' G∧OKo X ad G₀ (forGo (tgtS is (k==0)) g (ds.drop i) ρ) D' E,⟨_,rfl,Nat.zero_le _,G',ρ,S,Same.refl _,hr⟩, ?_⟩
 rintro i m σ1 H1 ⟨rfl,hi,G1,ρ1,S1,sm,hr1⟩
 cases q:ds[i]? with
 | none=>
  have hl:ds.length≤i:=List.getElem?_eq_none_iff.mp q
  have:i=ds.length:=by omega
  subst this
  refine .inl ⟨it.stop G1 H1 sm S1.st.gh, ?_⟩
  rw [List.drop_length] at hr1
  exact hr1 σ1 G1 H1 S1
 | some d=>
  have hlt:i<ds.length:=(List.getElem?_eq_some_iff.mp q).1
  obtain⟨go,yl⟩:=it.go i G1 H1 d sm S1.st.gh q
  refine .inr ⟨go,fun σ' H'=> ∃ G ρ,SS X ad G₀ G H' ρ σ'∧Same G' G∧OKo X ad G₀ (forGo (tgtS is (k==0)) g (ds.drop (i+1)) ρ) D' E,fun σ' H' ⟨Ga,ρa,Sa,sa,ra⟩=>⟨_,by omega,rfl,hlt,Ga,ρa,Sa,sa,ra⟩,fun x H2 y=> ?_⟩
  obtain⟨G2,st,r2⟩:=yl x H2 y
  rw [xS q] at hr1
  unfold forGo at hr1
  cases et:tgtS is (k==0) d ρ1 with
  | none=>rw [et] at hr1;exact hr1.elim
  | some ρ2=>
   rw [et] at hr1
   have S2:=S1.step st
   refine vM hk et S2 r2 fun σ2 S3=> ?_
   refine⟨G2,G2,ρ2,E,S3.here,hx, ?_⟩
   have hr2:OKo X ad G₀ (match g ρ2 with
    | .nx ρ2=>forGo (tgtS is (k==0)) g (ds.drop (i+1)) ρ2
    | .ct ρ2=>forGo (tgtS is (k==0)) g (ds.drop (i+1)) ρ2
    | .bk ρ2=> .nx ρ2
    | .rt r=> .rt r
    | .ex c ρ2=> .ex c ρ2) D' E:=hr1
   cases eo:g ρ2 with
   | nx ρ3=>
    rw [eo] at hr2
    exact fun σ G H S4=>⟨G,ρ3,S4.up S3.st,(sm.trans st.sg).trans S4.st.sg,hr2⟩
   | ct ρ3=>
    rw [eo] at hr2
    exact fun σ G H S4=>⟨G,ρ3,S4.up S3.st,(sm.trans st.sg).trans S4.st.sg,hr2⟩
   | bk ρ3=>
    rw [eo] at hr2
    exact fun σ G H S4=>hr2 σ G H (S4.up S3.st)
   | ex c ρ3=>
    rw [eo] at hr2
    exact fun σ G H S4=>hr2 σ G H (S4.up S3.st)
   | rt r=>
    rw [eo] at hr2
    have:=hr2.rebase S3.st
    cases r<;>exact this
theorem aBf {k:Nat} {is:List Nat} {xs:List Str} (hp:PassesOwn (model X.prog X.w) X.A X.env X.xe) (hc:X.calm=true) (hN:X.N.Nodup) (hi:MIG X ad tg it f) (ht:tgNames tg=some (xs,k)) (hn:NmsOk X xs is) (hb:MSs X ad Z body g)
  (hs: ∀ x,foldedSetIterable it X.env x=pure x):MS X ad Z (.For tg it body [] pos) (sFor is (k==0) f g):=by
 obtain⟨P,hk⟩:=aBe hc hN ht hn
 refine PS.imp (z9 hp hc hi P hb hs) ?_
 rintro D' σ H ⟨G₀,G,ρ,E,S,hx,hr⟩
 refine⟨G,ρ,E σ,S.st.gh,S.sl,hx.1 σ, ?_⟩
 unfold sFor outR at hr
 cases e:f ρ with
 | ok d=>
  rw [e] at hr
  have hr':OKo X ad G₀ (match items d with | some ds=>forGo (tgtS is (k==0)) g ds ρ | none=> .rt .bad) D' E:=hr
  cases e2:items d with
  | none=>rw [e2] at hr';exact hr'.elim
  | some ds=>
   rw [e2] at hr'
   exact⟨ds,e2,fun J G' H' st it=>lT hk (S.step st) hx it hr'⟩
 | ow xs=>
  rw [e] at hr
  exact fun J G' H' st it=>lT hk (S.step st) hx it hr
 | ex c=>rw [e] at hr;exact fun G1 H1 st=>hr σ G1 H1 (S.step st)
 | bad=>rw [e] at hr;exact hr
theorem sZ {c:Expr} (hp:PassesOwn (model X.prog X.w) X.A X.env X.xe) (hc:MT X ad c f) (hb:MSs X ad Z body g):MS X ad Z (.While c body [] pos) (sWhile f g):=by
 refine PS.imp (sH hp hc hb) ?_
 rintro D' σ H ⟨G₀,G,ρ,E,S,hx,hr⟩
 refine⟨fun m σ H=> ∃ G ρ,SS X ad G₀ G H ρ σ∧OKo X ad G₀ (whileGo f g m ρ) D' E,⟨_,G,ρ,S,hr⟩, ?_⟩
 rintro m σ1 H1 ⟨G1,ρ1,S1,hr1⟩
 cases m with
 | zero=>exact hr1.elim
 | succ m=>
  unfold whileGo at hr1
  cases e:f ρ1 with
  | ok d=>
   rw [e] at hr1
   cases d<;>try exact hr1.elim
   rename_i k
   refine⟨G1,ρ1,E σ1,S1.st.gh,S1.sl,hx.1 σ1, .inl ⟨k,e⟩, ?_⟩
   rw [e]
   intro v G2 H2 st r
   unfold Rep at r;subst r
   refine⟨k,rfl, ?_⟩
   have S2:=S1.step st
   cases k with
   | false=>exact iteF (hr1 σ1 G2 H2 S2)
   | true=>
    refine iteT ⟨fun σ' H'=> ∃ G ρ,SS X ad G₀ G H' ρ σ'∧OKo X ad G₀ (whileGo f g m ρ) D' E,fun σ' H' ⟨Ga,ρa,Sa,ra⟩=>⟨m,Nat.lt_succ_self _,Ga,ρa,Sa,ra⟩,G2,G2,ρ1,E,S2.here,hx, ?_⟩
    have hr2:OKo X ad G₀ (match g ρ1 with
     | .nx ρ'=>whileGo f g m ρ'
     | .ct ρ'=>whileGo f g m ρ'
     | .bk ρ'=> .nx ρ'
     | .rt r=> .rt r
     | .ex k ρ'=> .ex k ρ') D' E:=hr1
    cases eo:g ρ1 with
    | nx ρ3=>rw [eo] at hr2;exact fun σ G H S4=>⟨G,ρ3,S4.up S2.st,hr2⟩
    | ct ρ3=>rw [eo] at hr2;exact fun σ G H S4=>⟨G,ρ3,S4.up S2.st,hr2⟩
    | bk ρ3=>rw [eo] at hr2;exact fun σ G H S4=>hr2 σ G H (S4.up S2.st)
    | ex c ρ3=>rw [eo] at hr2;exact fun σ G H S4=>hr2 σ G H (S4.up S2.st)
    | rt r=>
     rw [eo] at hr2
     have:=hr2.rebase S2.st
     cases r<;>exact this
  | ow xs=>rw [e] at hr1;exact hr1.elim
  | ex k=>
   rw [e] at hr1
   refine⟨G1,ρ1,E σ1,S1.st.gh,S1.sl,hx.1 σ1, .inr ⟨k,e⟩, ?_⟩
   rw [e]
   exact fun G2 H2 st=>hr1 σ1 G2 H2 (S1.step st)
  | bad=>rw [e] at hr1;exact hr1.elim
theorem aBg {st:Stmt}:MS X ad Z st sBad:=fun _ _ _ _ _ _ ⟨_,_,_,_,_,_,hr⟩=>False.elim hr
theorem aBh {i:Nat} {x:Str} {op:Operator} (hN:X.N.Nodup) (hi:NmOk X x i) (he:ME X ad e f) (ho:op= .Add∨op= .Sub):MS X ad Z (.AugAssign (.Name x pos') op e pos) (sAug i op f):=by
 rcases ho with rfl | rfl
 ·refine PS.imp (vB hN hi.1 hi.2.1 he vC hi.2.2) ?_
  rintro D' σ H ⟨G₀,G,ρ,E,S,hx,hr⟩
  unfold sAug at hr
  cases q:ρ[i]? with
  | none=>rw [q] at hr;exact hr.elim
  | some sl=>
   rw [q] at hr
   cases sl with
   | no=>exact hr.elim
   | ow _=>exact hr.elim
   | dc _=>exact hr.elim
   | sd _=>exact hr.elim
   | sh d=>
    cases d<;>try exact hr.elim
    rename_i a
    obtain⟨v,h1,h2⟩:=S.sl.sh q
    unfold Rep at h2;subst h2
    refine⟨_,h1,bO S hx hr fun v d G1 H1 st r k=> ?_⟩
    cases d<;>try exact False.elim k
    unfold Rep at r;subst r
    exact⟨a,_,rfl,rfl,k _ G1 H1 ((S.step st).set aD)⟩
 ·refine PS.imp (vB hN hi.1 hi.2.1 he zZ hi.2.2) ?_
  rintro D' σ H ⟨G₀,G,ρ,E,S,hx,hr⟩
  unfold sAug at hr
  cases q:ρ[i]? with
  | none=>rw [q] at hr;exact hr.elim
  | some sl=>
   rw [q] at hr
   cases sl with
   | no=>exact hr.elim
   | ow _=>exact hr.elim
   | dc _=>exact hr.elim
   | sd _=>exact hr.elim
   | sh d=>
    cases d<;>try exact hr.elim
    rename_i a
    obtain⟨v,h1,h2⟩:=S.sl.sh q
    unfold Rep at h2;subst h2
    refine⟨_,h1,bO S hx hr fun v d G1 H1 st r k=> ?_⟩
    cases d<;>try exact False.elim k
    unfold Rep at r;subst r
    exact⟨a,_,rfl,rfl,k _ G1 H1 ((S.step st).set aD)⟩
theorem tD:PGet X (rIxL X.K):=by
 intro pins s σ H x y v u Q I rx ry h
 obtain⟨p,xs,i,z,rfl,rfl,hq,he,q⟩:=h
 cases rx
 obtain⟨t,rfl⟩:=ry
 obtain⟨its,r,pl,hz⟩:=I.list hq
 obtain⟨j,h1,h2,h3,h4,h5⟩:=jZ he
 obtain⟨w,ew,rw'⟩:=r.get h2
 have hl:=r.length
 have hn:=line63
 have fin:EP X pins σ Q w s:=⟨z,H,I,rw',q⟩
 by_cases h0:0≤i
 ·have hj:i.toNat=j:=by
   rw [seqIndex_of h0 h5] at h1
   exact Option.some.inj h1
  exact wpAny_getItem_list pl.isList h0 (by omega) (by rw [hj];simpa using ew) fin
 ·have hj:(i+(its.toArray.size:Int)).toNat=j:=by
   rw [seqIndex_neg (by omega) h4] at h1
   rw [List.size_toArray, ←hl]
   exact Option.some.inj h1
  exact wpAny_getItem_list_neg pl.isList (by omega) (by rw [List.size_toArray]<;>omega) (by omega) (by rw [hj];simpa using ew) fin
theorem xT {i:Nat} {x:Str} {p tp:Pos} {kx:Expr} {fk:F} (hN:X.N[i]? =some x) (hv:Vis X.env.scope x) (hd:(x==("__debug__":Str))=false) (hcd:(x==("__classdict__":Str))=false) (he:ME X ad e f) (hk:ME X ad kx fk)
  (ha: ∀ ov iv new,augStore kx ov iv new=(do holding [new,ov,iv] (setItem ov iv new);release [new,ov,iv] [];pure .next)):
  MS X ad Z (.AugAssign (.Subscript (.Name x p) kx tp) .Add e pos) (sAugS i fk f):=by
 refine PS.imp (wM (bL hN hv hd hcd) hk tD he vC lG ha) ?_
 rintro D' σ H ⟨G₀,G,ρ,E,S,hx,hr⟩
 unfold sAugS at hr
 cases q:ρ[i]? with
 | none=>rw [q] at hr;exact hr.elim
 | some sl=>
  rw [q] at hr
  cases sl with
  | no=>exact hr.elim
  | sh d=>exact hr.elim
  | dc d=>exact hr.elim
  | sd d=>exact hr.elim
  | ow xs=>
   obtain⟨a,vs,h1,h2,h3,h4⟩:=S.sl.ow q
   refine⟨.ref a,h1, ?_⟩
   refine bO S hx hr fun v2 y G2 H2 st2 r2 k2=> ?_
   obtain⟨g2,h2'⟩:=aZ st2 h2 h3
   cases y<;>try exact False.elim k2
   rename_i j
   unfold Rep at r2;subst r2
   have k':OKo X ad G₀ (match ixD xs.length j with | some m=>(match xs[m]? with | some (.int a)=>outR ρ (f ρ) fun d=>(match d with | .int b=> .nx (ρ.set i (.ow (xs.set m (.int (a+b))))) | _=> .rt .bad) | _=> .rt .bad) | none=> .rt .bad) D' E:=k2
   cases q2:ixD xs.length j with
   | none=>rw [q2] at k';exact k'.elim
   | some m=>
    rw [q2] at k'
    dsimp only at k'
    cases q3:xs[m]? with
    | none=>rw [q3] at k';exact k'.elim
    | some d0=>
     rw [q3] at k'
     cases d0<;>try exact False.elim k'
     rename_i a0
     dsimp only at k'
     have r4:=h4.mono st2.sg
     obtain⟨v0,e0,r0⟩:=r4.get q3
     unfold Rep at r0;subst r0
     have hat:atI vs j=some (.int a0):=by
      unfold atI
      rw [h4.length, ←lM,q2]
      exact e0
     refine⟨a,vs,j, .int a0,rfl,rfl,SqL.of h2',hat, ?_⟩
     refine bO (S.step st2) hx k' fun v3 d3 G3 H3 st3 r3 k3=> ?_
     obtain⟨g3,h3'⟩:=aZ st3 g2 h2'
     cases d3<;>try exact False.elim k3
     rename_i b0
     unfold Rep at r3;subst r3
     refine⟨a0,b0,rfl,rfl,a,vs,j,m,rfl,rfl,h3',by rw [h4.length, ←lM];exact q2, ?_⟩
     exact k3 σ G3 _ (((S.step st2).step st3).upd q h1 g3 (Reps.set aD m (r4.mono st3.sg)))
end
section
variable {X:Cx} {ad:Ad} {pins:List (Addr×Obj)} {s s3:Shared} {σ σ2:St} {H G G₀ H3 H':Hp} {ρ:Rho} {Q:VK} {D':Ends} {E:St→Nat→Hp→Prop} {pos pos' cpos:Pos} {elt it tg:Expr} {ifs:List Expr} {f fi fe:F} {fc:Option F} {sc:Scope} {k:Nat} {cs:List Nat} {xs:List Str}
theorem kN {s2:Shared} {h':Heap} (I3:Inv X pins σ H3 s3) (I2:Inv X pins σ2 H' s2) (hf:H' s3.heap.objs.size=none) (sb:Heap.SameBut s3.heap.objs.size s2.heap h'):Inv X pins σ2 H' { s2 with heap:=h' }:=by
 refine I2.turned (t':=s2.toks) (it:=s3.heap.objs.size) (fun b o ne e=>(sb.2 b ne).trans e) hf ?_ (.inr I3.sz) (fun x c h z=> ?_) fun p hp z=> ?_
 ·intro z
  obtain⟨m,hn,_⟩:=I3.loc
  obtain⟨o,_,_,ho,_⟩:=hn
  exact absurd (Heap.lt_size ho) (by rw [←z];exact Nat.lt_irrefl _)
 ·obtain⟨v,o,ho,_⟩:=I3.cell x c h
  exact absurd (Heap.lt_size ho) (by rw [z];exact Nat.lt_irrefl _)
 ·obtain⟨ho,_⟩:=I3.pin p hp
  exact absurd (Heap.lt_size ho) (by rw [z];exact Nat.lt_irrefl _)
theorem tF {h h':Heap} {a C:Addr} {m:Str→Option Value} (n:h.Ns C m) (sb:Heap.SameBut a h h') (ne:C≠a):h'.Ns C m:=by
 obtain⟨o,es,ep,ho,r⟩:=n
 exact⟨o,es,ep,(sb.2 C ne).trans ho,r⟩
theorem xU {C:Ctx} {i:Nat} {x:Str} (hN:X.N.Nodup) (hi:NmOk X x i) (hc:X.calm=true) (S:CompSc X C sc xs cs) (hit:MI X ad tg it fi) (hset: ∀ a b c,it≠ .Set a b c) (hxs:xs.length=if k=0 then 1 else k)
  (hg: ∀ fp s3 H3 pins',PG (cX X (xs++frees sc) sc s3 H3 fp pins') tg (gTg X.K k)) (hts: ∀ fp s3 H3 pins',MTs (cX X (xs++frees sc) sc s3 H3 fp pins') ad ifs fc) (he: ∀ fp s3 H3 pins',ME (cX X (xs++frees sc) sc s3 H3 fp pins') ad elt fe)
  (hs:swapsWith (.ListComp elt [⟨tg,it,ifs,0⟩] sc cpos) (some (.Name x pos')) pos.line X.env=pure true):
  PS X (.Assign [.Name x pos'] (.ListComp elt [⟨tg,it,ifs,0⟩] sc cpos) pos) (tAsg (tE X ad (rComp k cs fi fc fe)) (gName i)):=by
 intro pins s σ H D' I ⟨G,ρ,E,hG,hS,hx,hr⟩
 rw [exec_Assign_Name_used _ _ _ _ hs]
 have hcl:closureFor sc X.env=pure (clOf X.env.cells sc.names []):=fN fun x hx=>by
  obtain⟨c,h⟩:=I.ok.has x (S.fre x hx)
  rw [h];rfl
 refine wpAny_bind (wpAny_standAt (wpAny_bind ?_))
 show wpAny _ X.A (do let _←comprehension (.ListComp elt [⟨tg,it,ifs,0⟩] sc cpos) sc X.env _ (newList []) false (eval it X.env) (some (assign (.Name x pos') X.env))) _ _ s
 refine wpAny_bind (wpAny_mono (wpAny_comprehension_free (use:=some (assign (.Name x pos') X.env)) (Q:=fun _ s'=>SP X pins D' .next s') rfl (noSet hset) hcl S.kind S.names ?_) (fun _ s' hq=>wpAny_pure (wpAny_pure hq)) fun _ _ e=>e)
 refine L2.thn (hit pins s σ H _ I ⟨G,ρ,E,hG,hS,hx,aA9 (W:=fun J H2=> ∃ G2 ds all,Step G H G2 H2∧ItH X ad J G2 H2 ds∧compGo (compF k (caps cs ρ) fc fe) ds=some all∧RK X.K ad G2 H2 (.ow all) (fun v H1=>gName i v σ H1 D'.nx) E) hr fun J G2 H2 ds all a b c d=>⟨G2,ds,all,a,b,c,d⟩⟩) fun v s1 h1=>
  L2.thn h1 fun itv s2 hz_=> ?_
 obtain⟨itA,fp,tn,J,H2,e,I2,T,st2,f2,G2,ds,all,sp,hit,hgo,hr2⟩:=hz_
 subst e
 obtain⟨σc,l1,l2,l3⟩:=fO (xs:=xs) (sc:=sc) (nt:=if k=0 then 1 else k) hxs S.N S.cs (fun x h=>i5 h) (hS.step sp) I2.len
 refine i0 (σc:=σc) hc I2 T st2 f2 hit hgo sp.gh S.kind S.cell S.fre S.frl l1 l2 rfl l3 (hg fp) (hts fp) (he fp) fun s3 s' H3 H' G' σ' D vs I3 f3 J' sp' hD gD hD' r'=> ?_
 obtain⟨m,hns,_⟩:=J'.loc
 have I4:Inv X pins σ H' s':=vK (fpO:=f3) I3 J' ⟨rfl,fun _ _=>rfl⟩
 show wpAny _ X.A (assign (.Name x pos') X.env (.ref D)) _ _ _
 refine wpAny_assign_Name (iE I4 hN hi.1 hi.2.1 (v:= .ref D) rfl (fun s'' I5 ⟨a,sb,ha⟩=> ?_) hi.2.2)
 have ne:s3.heap.objs.size≠a:=by
  rcases ha with rfl | ha
  ·intro z
   obtain⟨m',hn,_⟩:=I3.loc
   obtain⟨o,_,_,ho,_⟩:=hn
   exact absurd (Heap.lt_size ho) (by rw [←z];exact Nat.lt_irrefl _)
  ·intro z
   obtain⟨v,o,ho,_⟩:=I3.cell x a ha
   exact absurd (Heap.lt_size ho) (by rw [←z];exact Nat.lt_irrefl _)
 refine⟨m,tF hns sb ne,fun h' sb'=> ?_⟩
 exact⟨σ.set i (some (.ref D)),H',kN I3 I5 J'.free sb',hr2 D vs G' H' sp' hD gD hD' r'⟩
end
open PySem.W PySem.Calls Builtin Builtin.ObjectAttr Builtin.Getset_descriptor
section
variable {prog:Program} {w:World} {A:Around} {E:Value→Shared→Prop} {s:Shared} {K:Frag} {x C:Addr} {R:Result→Shared→Prop}
theorem ExcAt.ty {M:Model} {h:Heap} (I:ExcAt h x C):Looks M h (typeOf (.ref x)) (.ref C):=by
 obtain⟨o,vs,h1,h2,h3⟩:=I
 exact h2▸(Looks.ld h1).andThen .now
theorem xV {tp:Value} (X:K.In s.heap) (I:ExcAt s.heap x C) (hm:mroIn K C (.type "object")=some true) (h:R (.ok (.ret (.ref C))) s):
  codeAny (model prog w) A (.call (.builtin "getset_descriptor.__get__") ⟨[.builtin "object.__class__", .ref x,tp],[]⟩) R s:=by
 obtain⟨hh,g,dr,t,os⟩:=s
 have L0:=I.ty (M:=model prog w)
 have L1:=looks_mroIn (M:=model prog w) X hm
 refine codeAny_call_builtin KF.slot_gs.plain KF.entry_gs (KF.slot_gs.check _ _ _ _ _ _ _ _ KF.type_class (KF.args_gs _ _ _) ?_)
 unfold Builtin.«getset_descriptor.__get__» descrGet
 rw [dga_obj]
 refine wpAny_bind (wpAny_pure ?_)
 unfold descrGetter descrCheckInstance descrNameAndClass isInstance
 simp only [KF.owner_class]
 repeat lk
 refine⟨Code.quiet_builtin _ (by decide+kernel),codeAny_builtin KF.entry_class ?_⟩
 unfold Builtin.«object.__class__» shownTypeOf
 repeat lk
 exact h
theorem pD {M:Model} {nameV:Value} {Q:Unit→Shared→Prop} (X:K.In s.heap) (I:ExcAt s.heap x C) (hm:mroIn K C (.type "BaseException")=some true) (hq:Q () s):wpAny M A (checkBuiltinCall "BaseException.__getattribute__" ⟨[.ref x,nameV],[]⟩) Q E s:=by
 obtain⟨hh,g,dr,t,os⟩:=s
 have hk:builtinKind "BaseException.__getattribute__"=some .slot:=by decide+kernel
 have hsplit:splitId "BaseException.__getattribute__"=some ("BaseException","__getattribute__"):=by decide+kernel
 have L0:=I.ty (M:=M)
 have L1:=looks_mroIn (M:=M) X hm
 have ha:=F.args_bexc_ga (.ref x) nameV
 simp only [checkBuiltinCall,hk,hsplit]
 refine wpAny_bind ?_
 unfold isInstance
 refine wpAny_bind (L0.at (L1.at ?_))
 repeat (any_goals (first | assumption | wp_step))
theorem pE {tk:Tok} {Q:PySem.Fin→Shared→Prop} (X:K.In s.heap) (I:ExcAt s.heap x C) (hm:mroIn K C (.type "object")=some true) (ha:findIn K (.ref C) "__class__"=some (some (.builtin "object.__class__"))) (hq:Q (.done (.ret (.ref C))) s):
  wpAny (model prog w) A (Builtin.«object.__getattribute__» ⟨[.ref x, .str "__class__" tk],[]⟩) Q E s:=by
 obtain⟨hh,g,d,t,os⟩:=s
 have hT5:(⟨hh,g,d,t,os⟩:Shared).TypeIs (.builtin "object.__class__") "getset_descriptor":=F.typeOf_object_class
 have f5:=F.typeOf_object_class
 have f6:=F.slot_gs_get.lookup
 have f7:=F.slot_gs_set.lookup
 have L0:=I.ty (M:=model prog w)
 have L1:=looks_findIn (M:=model prog w) X ha
 obtain⟨o,vs,hx,hc,hd⟩:=id I
 repeat (any_goals (first | assumption | (with_reducible refine wpAny_loadPart_at hx ?_;rw [hc]) | with_reducible refine L1.at ?_ | wp_step))
 refine xV X I hm ?_
 repeat (any_goals (first | assumption | wp_step))
theorem pF {Q:Option Value→Shared→Prop} (X:K.In s.heap) (I:ExcAt s.heap x C) (hm:mroIn K C (.type "object")=some true) (hb:mroIn K C (.type "BaseException")=some true) (ha:findIn K (.ref C) "__class__"=some (some (.builtin "object.__class__")))
  (hg:findIn K (.ref C) "__getattribute__"=some (some (.builtin "BaseException.__getattribute__"))) (hn:findIn K (.ref C) "__getattr__"=some none) (h:Q (some (.ref C)) { s with toks:=s.toks+1 }):
  wpAny (model prog w) A (getAttr? (.ref x) "__class__") Q E s:=by
 obtain⟨hh,g,d,t,os⟩:=s
 have L0:=I.ty (M:=model prog w)
 have L1:=looks_findIn (M:=model prog w) X hg
 have L2:=looks_findIn (M:=model prog w) X hn
 have f3:=PySem.F.excAttr_ValueError.ga.bind (.ref x)
 have hx2:(Value.builtin "BaseException.__getattribute__"==Value.builtin "object.__getattribute__")=false:=by decide+kernel
 have hx1:(onTheHeap (Value.ref C)&&Value.builtin "BaseException.__getattribute__"==Value.builtin "object.__getattribute__")=false:=by rw [hx2];rfl
 obtain⟨o,vs,hx,hc,hd⟩:=id I
 unfold getAttr? getAttrBy? getAttrBy
 repeat (any_goals (first | assumption | (with_reducible refine wpAny_loadPart_at hx ?_;rw [hc]) | with_reducible refine L1.at ?_ | with_reducible refine L2.at ?_ | wp_step))
 refine codeAny_call_builtin PySem.F.excAttr_ValueError.ga.plain F.entry_bexc_ga (pD X I hb (pE X I hm ha ?_))
 repeat (any_goals (first | assumption | wp_step))
end
theorem _root_.L2.ObjOk.there {P:Program} {w:World} {H:Hp} {h:Heap} {a:Addr} {o:HO} (x:ObjOk P w H h a o): ∃ ob,h.get? a=some ob:=by
 cases o with
 | lst xs=>obtain⟨_,_,_,_,e⟩:=x;exact⟨_,e⟩
 | tup xs=>obtain⟨_,_,_,⟨ob,e,_⟩,_⟩:=x;exact⟨_,e⟩
 | dK kvs=>obtain⟨_,_,_,_,o,_,_,e,_⟩:=x;exact⟨_,e⟩
 | dT kvs=>obtain⟨_,_,_,_,o,_,_,e,_⟩:=x;exact⟨_,e⟩
 | set S n=>obtain⟨o,_,_,_,e,_⟩:=x;exact⟨_,e⟩
 | ins C dx fs=>obtain⟨_,_,_,e,_⟩:=x;exact⟨_,e⟩
 | own y=>exact x
 | xd fs=>obtain⟨_,⟨_,_,_,e,_⟩,_⟩:=x;exact⟨_,e⟩
 | rng lo hi=>obtain⟨_,_,_,e⟩:=x;exact⟨_,e⟩
 | frz ob u=>obtain⟨e,_⟩:=x;exact⟨_,e⟩
 | tbl ps=>exact⟨_,(show h.get? a=some _ from x)⟩
 | met f y=>exact⟨_,(show h.get? a=some _ from x)⟩
 | ext φ=>obtain⟨_,e,_⟩:=x;exact e
section
variable {X:Cx} {ad:Ad} {pins:List (Addr×Obj)} {s:Shared} {σ:St} {H H':Hp} {B h':Heap} {ea:Addr} {cls a0:Value} {E₀:XK} {E:Nat→Hp→Prop}
structure DefX (X:Cx) (E₀:XK):Prop where
 ex:X.ex=[]
 stk:X.stack=X.env::X.outer
 fr:X.env.frame=some X.env.locals
 xe: ∀ e s',wpAny (model X.prog X.w) X.A (leaving X.env e) (fun _ s''=>CXe X.prog X.w X.outer X.H₀ X.s₀ E₀ e s'') (fun e' s''=>CXe X.prog X.w X.outer X.H₀ X.s₀ E₀ e' s'') s'→X.xe e s'
theorem aBi (J:Inv X pins σ H s) {b:Addr} {o:Obj} (e:X.s₀.heap.get? b=some o):b≠X.env.locals:=fun z=>by
 have:=Heap.lt_size e
 rw [z] at this
 exact absurd (Nat.lt_of_lt_of_le this J.ok.above) (Nat.lt_irrefl _)
theorem pG (J:Inv X pins σ H s) {b:Addr} {o:Obj} (e:X.s₀.heap.get? b=some o) (nf:b∉X.fs):b∉frs X.stack:=fun z=>by
 rcases List.mem_cons.mp (J.stkSub b z) with q | q
 ·exact aBi J e q
 ·exact nf q
theorem vN (T:DefX X E₀) (J:Inv X pins σ H' s) (fly:Heap.FlyingW B X.outer ea cls a0 h') (ff:s.heap.FunFrames B X.stack) (stays:B.StaysIn s.heap) (up:s.heap.UpToSlots h')
  (c8: ∀ b o,X.s₀.heap.get? b=some o→b∉X.fs→ ∃ o',B.get? b=some o') (c9: ∀ b o,H' b=some o→ ∃ o',B.get? b=some o') (ne:H' ea=none) (q:E₀ cls none H'):
  CXe X.prog X.w X.outer X.H₀ X.s₀ E₀ (.ref ea) { s with heap:=h' }:=by
 have nx: ∀ b,b∉X.ex:=fun b=>by rw [T.ex];simp
 have st2:B.StaysIn h':=fly.1
 have inB: ∀ b o,s.heap.get? b=some o→(∃ o',B.get? b=some o')→h'.get? b=some o:=fun b o e ⟨o',e'⟩=>by
  have:=stays b o' e'
  rw [e] at this
  cases this
  exact st2 b o e'
 have frame: ∀ b∈X.fs, ∀ o,s.heap.get? b=some o→ ∃ sl,h'.get? b=some { o with slots:=sl }:=fun b hb o e=>by
  obtain⟨_,o2,e2,nf⟩:=ff.mem (b:=b) (by rw [T.stk];show b∈frs (X.env::X.outer);unfold frs;rw [List.filterMap_cons,T.fr];exact List.mem_cons_of_mem _ hb)
  rw [e] at e2
  cases e2
  exact up b o e nf
 refine⟨ea,cls,a0,H',B,rfl,J.os,J.bare,fly,⟨fun b o e n hf _=> ?_,fun b o e n hf _=> ?_,fun b o e n _=> ?_,fun b o e _=> ?_,J.base.tups,J.base.frzs,J.base.tbls⟩,fun b o e=> ?_,ne,c8,c9,q⟩
 ·exact inB b o (J.base.keep b o e n hf (nx b)) (c8 b o e hf)
 ·obtain⟨sl,e1⟩:=J.base.slot b o e n hf (nx b)
  obtain⟨sl',e2⟩:=frame b hf _ e1
  exact⟨sl',e2⟩
 ·exact J.base.free b o e n (nx b)
 ·obtain⟨o',e1⟩:=J.base.there b o e (nx b)
  by_cases hf:b∈X.fs
  ·obtain⟨sl,e2⟩:=frame b hf _ e1
   exact⟨_,e2⟩
  ·exact⟨o',inB b o' e1 (c8 b o e hf)⟩
 ·refine(J.hok b o e).stay (fun c v hc e1=> ?_) (fun _ z=>z) fun _ _ z=>z
  rcases hc with rfl | hc
  ·exact inB c v e1 (c9 c o e)
  ·exact inB c v e1 (c9 c _ hc)
theorem aBj (T:DefX X E₀):XP X ad σ (fun c H'=>E₀ (.ref (ad.cls c)) none H'):=by
 intro pins H s e s' I hc
 obtain⟨ea,cls,a0,H',B,rfl,ho,hg,fly,un,hok,ne,c8,c9,c,rfl,q⟩:=hc
 have J:Inv X pins σ H' s':=I.call' (ch:=[]) ho un hok hg fun b hb=>by simp at hb
 refine T.xe _ _ ?_
 have hfr:X.A.frames=some (X.env::X.outer):=by rw [←T.stk];exact I.ok.frames
 rw [T.stk] at fly
 refine wpAny_leaves_onW hfr T.fr fly fun h' fly' up=> ?_
 refine vN T J fly' (by rw [T.stk];exact fly.2.2.1) fly.1 up (fun b o e hf=> ?_) c9 ne q
 obtain⟨o',e1⟩:=I.base.there b o e (by rw [T.ex];simp)
 exact c8 b o' e1 (pG I e hf)
theorem tG {x:Str} {C:Addr} {np cpos pos kp:Pos} {msg:Str} {j:Nat} {D':Ends} (T:DefX X E₀) (hc:X.calm=true) (hg:L2.Gl X x) (hm:X.mg x=some (.ref C)) (hd:(x==("__debug__":Str))=false) (hi:excIn X.K C [.type "ValueError", .type "Exception", .type "BaseException", .type "object"] "ValueError.__new__"=true)
  (I:Inv X pins σ H s) (q:E₀ (.ref C) none H):wpAny (model X.prog X.w) X.A (exec (.Raise (some (.Call (.Name x np) [.Constant (.str msg) j kp] [] cpos)) none pos) X.env) (SP X pins D') X.xe s:=by
 have obj: ∀ h₀:Heap,X.K.In h₀→ ∃ bm N nm q bs hdct sn sub ab col dd k0 k1 k2 k3 k5 mN,h₀.get? C=some (excClassObj nm q C N bs bm hdct sn sub ab col dd k0 k1 k2 k3 k5 "ValueError.__new__")∧h₀.Ns N mN∧mN "__init__"=none∧OwnTail h₀ [.type "ValueError", .type "Exception", .type "BaseException", .type "object"] bm:=by
  intro h₀ Z
  have q:=hi
  unfold excIn at q
  split at q
  ·rename_i dd cd sl ho
   split at q
   ·rename_i C' bm k0 k1 k2 k3 n k5 hm hs
    simp only [Bool.and_eq_true,beq_iff_eq,Bool.not_eq_true'] at q
    obtain⟨⟨⟨⟨⟨rfl,rfl⟩,hdel⟩,ht⟩,hok⟩,hni⟩:=q
    obtain⟨nm,bs,mro,ns,qn,hd,sn,sub,ab,col,del⟩:=cd
    dsimp only at hm hdel hok hni
    subst hm hdel
    have hsl:sl= #[k0,k1,k2,k3,some (.builtin "ValueError.__new__"),k5]:=by
     obtain⟨l⟩:=sl
     simp only at hs
     rw [hs]
    subst hsl
    exact⟨bm,ns,nm,qn,bs,hd,sn,sub,ab,col,dd,k0,k1,k2,k3,k5,_,Z _ _ ho, .of_isNs (isNs_of_in Z hok),nsMap_none_of_in Z hok hni,tail_of_in Z ht⟩
   ·cases q
  ·cases q
 obtain⟨bm,N,nm,qn,bs,hdct,sn,sub,ab,col,dd,k0,k1,k2,k3,k5,mN,hC,hN,hni,hT⟩:=obj X.base I.ok.mod.kin
 refine wpAny_Raise_call_subT (C:=C) (nm:=nm) (q:=qn) (N:=N) (bs:=bs) (bm:=bm) (hdct:=hdct) (sn:=sn) (sub:=sub) (ab:=ab) (col:=col) (dd:=dd) (k0:=k0) (k1:=k1) (k2:=k2) (k3:=k3) (k5:=k5)
  PySem.F.excBase_ValueError (mN:=mN) (hT.hasType PySem.F.excBase_ValueError.hasBase) (I.ok.hd hc) rfl hni (gB I hg hm ⟨rfl, ?_⟩ hd)
 refine Calls.evalArgs_plain (Calls.spliced_cons (Calls.Constant_str (k:=j) (pos:=kp) (Calls.spliced_nil ⟨rfl,(show 1≤sizeLine from by decide), ?_, ?_, ?_,fun h' e M=> ?_⟩)))
 ·exact I.bk _ _ hC
 ·exact hN.keeps I.bk
 ·exact hT.keeps I.bk
 ·-- the frame is left
  have I1:Inv X pins σ H { s with toks:=s.toks+1 }:=I.tok _
  have J:Inv X pins σ H { s with heap:=h',toks:=s.toks+1 }:=I.kept (t':=s.toks+1) M.keeps
  refine T.xe _ _ ?_
  have hfr:X.A.frames=some (X.env::X.outer):=by rw [←T.stk];exact I.ok.frames
  have ff:s.heap.FunFrames (hideAll s.heap (frs X.stack)) X.stack:=funFrames_hide I.stack fun env he a ea=>List.mem_filterMap.mpr ⟨env,he,ea⟩
  have fk:h'.FunFrames (hideAll s.heap (frs X.stack)) X.stack:=ff.of_keeps fun b o hb _=>⟨o,M.keeps b o hb,rfl⟩
  have stays:(hideAll s.heap (frs X.stack)).StaysIn s.heap:=fun b o e=>of_hideAll _ e
  have ff0:=ff
  rw [T.stk] at ff0
  have stays':(hideAll s.heap (frs (X.env::X.outer))).StaysIn s.heap:=fun b o e=>of_hideAll _ e
  refine wpAny_leaves_madeW (h:=s.heap) (base:=hideAll s.heap (frs (X.env::X.outer))) hfr T.fr stays' ff0 M fun h2 t fly _ _ up=> ?_
  refine vN T J fly (by rw [T.stk] at fk ⊢;exact fk) (fun b o e=>M.keeps b o (of_hideAll _ e)) up (fun b o e hf=> ?_) (fun b o e=> ?_) ?_ q
  ·obtain⟨o',e1⟩:=I.base.there b o e (by rw [T.ex];simp)
   exact⟨o',hideAll_get _ e1 (by have:=pG I e hf;rwa [T.stk] at this)⟩
  ·obtain⟨o',e1⟩:=(I.hok b o e).there
   exact⟨o',hideAll_get _ e1 fun z=>by
    have:=I.stkFree b (by rw [T.stk];exact z)
    rw [this] at e
    cases e⟩
  ·cases z:H e with
   | none=>rfl
   | some o=>
    obtain⟨o',e1⟩:=(I.hok e o z).there
    rw [M.new] at e1
    cases e1
end
section
variable {X:Cx} {ad:Ad} {pins:List (Addr×Obj)} {s:Shared} {σ:St} {H H':Hp} {B h':Heap} {ea:Addr} {cls a0:Value} {E₀:XK}
end
noncomputable def tX (X:Cx) (pins:List (Addr×Obj)) (D':Ends) (hd:ExceptHandler):Cx:=
 { X with pn:=X.pn++pins,xe:=fun e s₁=>wpAny (model X.prog X.w) X.A (noteFrame e X.env) (fun _ s₂=>wpAny (model X.prog X.w) X.A (setFlight e none) (fun _ s₃=>wpAny (model X.prog X.w) X.A (handleBy e X.env [hd]) (SP X pins D') X.xe s₃) X.xe s₂) X.xe s₁ }
section
variable {X:Cx} {ad:Ad} {pins pins':List (Addr×Obj)} {s:Shared} {σ:St} {H H':Hp} {B h':Heap} {ea:Addr} {cls a0:Value} {D':Ends} {hd:ExceptHandler}
structure Fram (X:Cx):Prop where
 ex:X.ex=[]
 stk:X.stack=X.env::X.outer
 fr:X.env.frame=some X.env.locals
theorem tH {E₀:XK} {x:Str} {c:Nat} {np cpos pos kp:Pos} {msg:Str} {j:Nat} (T:DefX X E₀) (hc:X.calm=true) (hg:L2.Gl X x) (hm:X.mg x=some (.ref (ad.cls c))) (hd:(x==("__debug__":Str))=false) (hi:excIn X.K (ad.cls c) [.type "ValueError", .type "Exception", .type "BaseException", .type "object"] "ValueError.__new__"=true):
  MS X ad (fun E=> ∀ σ c H,E σ c H→E₀ (.ref (ad.cls c)) none H) (.Raise (some (.Call (.Name x np) [.Constant (.str msg) j kp] [] cpos)) none pos) (sRaise c):=by
 intro pins s σ H D' I ⟨G₀,G,ρ,E,S,hx',hr⟩
 exact tG T hc hg hm hd hi I (hx'.2 σ c H (hr σ G H S))
end
structure ExcCls (K:Frag) (C:Addr):Prop where
 is:(clsIn K C).isSome=true
 ob:mroIn K C (.type "object")=some true
 be:mroIn K C (.type "BaseException")=some true
 ca:findIn K (.ref C) "__class__"=some (some (.builtin "object.__class__"))
 ga:findIn K (.ref C) "__getattribute__"=some (some (.builtin "BaseException.__getattribute__"))
 gn:findIn K (.ref C) "__getattr__"=some none
theorem tJ {K:Frag} {x C:Addr} (T:ExcCls K C):KitX K (.ref x) (.ref C) (fun h=>ExcAt h x C) where
 ty:=fun _ _ _ I=>I.ty
 it:=fun _ _ Z _=>by
  obtain⟨cdD,hcD⟩:=Option.isSome_iff_exists.mp T.is
  unfold clsIn at hcD
  split at hcD
  ·rename_i c' d' cd' sl' ho
   intro A' Q' E' s' k q
   unfold isType loadHead
   exact wpAny_bind (wpAny_loadPart (k _ _ (Z _ _ ho)) (wpAny_pure q))
  ·cases hcD
 ne:=fun h tp dd its n sl Z htp=>by
  obtain⟨cdD,hcD⟩:=Option.isSome_iff_exists.mp T.is
  refine Bool.eq_false_iff.mpr fun q=> ?_
  have e:C=tp:=Value.ref.inj (beq_iff_eq.mp q)
  subst e
  unfold clsIn at hcD
  split at hcD
  ·rename_i c' d' cd' sl' ho
   have z:=(Z _ _ ho).symm.trans htp
   cases z
  ·cases hcD
 ca:=fun Z I k=>pF Z I T.ob T.be T.ca T.ga T.gn k
noncomputable def tyD (ad:Ad):D→Option Value
 | .non=>some (.type "NoneType")
 | .bl _=>some (.type "bool")
 | .int _=>some (.type "int")
 | .str _=>some (.type "str")
 | .tup _=>some (.type "tuple")
 | .lst _=>some (.type "list")
 | .exc c=>some (.ref (ad.cls c))
 | .fn _=>none
def IsOk (X:Cx) (ad:Ad) (cv:Value) (p:D→Option Bool):Prop:= ∀ d b,p d=some b→ ∃ t,tyD ad d=some t∧kitOne X.K t cv=some b
section
variable {X:Cx} {ad:Ad} {pins:List (Addr×Obj)} {s:Shared} {σ:St} {H G:Hp} {ρ:Rho} {E:Nat→Hp→Prop} {pos p tp:Pos} {a:Expr} {f:F}
theorem xW {A:Around} {Q:Value→Shared→Prop} {Ex:Value→Shared→Prop} {d:D} {v:V} {u t cv:Value} {b:Bool} (hx: ∀ c,ExcCls X.K (ad.cls c)) (I:Inv X pins σ H s) (hG:Same G H) (q:Rep X.K ad G d v) (r:RelV v u) (ht:tyD ad d=some t) (e:kitOne X.K t cv=some b)
  (h: ∀ tk,Q (.bool b) { s with toks:=tk }):wpAny (model X.prog X.w) A (call (.builtin "isinstance") [u,cv]) Q Ex s:=by
 cases d with
 | non=>unfold Rep at q;subst q;cases (show u=Value.none from r);cases ht;exact kia_one kitx_none I.kIn True.intro e (by intro z;cases z) h
 | bl k=>unfold Rep at q;subst q;cases (show u=Value.bool k from r);cases ht;exact kia_one kitx_bool I.kIn True.intro e (by intro z;cases z) h
 | int k=>unfold Rep at q;subst q;obtain⟨t',rfl⟩:=r;cases ht;exact kia_one kitx_int I.kIn True.intro e (by intro z;cases z) h
 | str k=>unfold Rep at q;subst q;obtain⟨t',rfl⟩:=r;cases ht;exact kia_one kitx_str I.kIn True.intro e (by intro z;cases z) h
 | tup ds=>
  unfold Rep at q
  obtain⟨p,vs,rfl,hp,_⟩:=q
  cases (show u=Value.ref p from r)
  cases ht
  obtain⟨its,_,⟨o,h1,h2,_⟩,_⟩:=I.tuple (hG.seqT hp)
  exact kia_one kitx_tuple I.kIn ⟨o,h1,h2⟩ e (by intro z;cases z) h
 | lst ds=>
  unfold Rep at q
  obtain⟨p,vs,rfl,hp,_⟩:=q
  cases (show u=Value.ref p from r)
  cases ht
  obtain⟨its,_,⟨o,n,h1,h2,_⟩,_⟩:=I.list (hG.seq hp)
  exact kia_one kitx_list I.kIn ⟨o,h1,h2⟩ e (by intro z;cases z) h
 | exc c=>
  unfold Rep at q
  obtain⟨p,rfl,hp⟩:=q
  cases (show u=Value.ref p from r)
  cases ht
  obtain⟨ex,_,_⟩:=(show ObjOk X.prog X.w H s.heap p (excO (ad.cls c) p) from I.hok p _ (hG _ _ hp))
  exact kia_one (tJ (hx c)) I.kIn ex e (by intro z;cases z) h
 | fn k=>cases ht
inductive ClNm (X:Cx) (t:Str) (cv:Value):Prop
 | blt (T:String):cv= .type T→L2.Gl X t→X.mg t=none→bootBuiltins t=some (.type T)→t≠"__name__"→(t==("__debug__":Str))=false→ClNm X t cv
 | own (C:Addr):cv= .ref C→L2.Gl X t→X.mg t=some (.ref C)→(t==("__debug__":Str))=false→ClNm X t cv
theorem ClNm.ev {t:Str} {cv:Value} {Ex:Value→Shared→Prop} {Q:Value→Shared→Prop} (c:ClNm X t cv) (I:Inv X pins σ H s) (h:Q cv s):wpAny (model X.prog X.w) X.A (eval (.Name t tp) X.env) Q Ex s:=by
 cases c with
 | blt T e g m b n d=>subst e;exact bM I g m b h n d
 | own C e g m d=>subst e;exact gB I g m h d
theorem xX {t:Str} {cv:Value} {P:D→Option Bool} (hx: ∀ c,ExcCls X.K (ad.cls c)) (hg:L2.Gl X "isinstance") (hm:X.mg "isinstance"=none) (c:ClNm X t cv) (k:IsOk X ad cv P) (ha:ME X ad a f)
  (he:starEach [a, .Name t tp] X.env=(false,eval a X.env)::starEach [.Name t tp] X.env):ME X ad (.Call (.Name "isinstance" p) [a, .Name t tp] [] pos) (rIs P f):=by
 intro pins s σ H Q I ⟨G,ρ,E,hG,hS,hx',hr⟩
 refine wpAny_Call_Name_kw (bM (u:= .builtin "isinstance") I hg hm (by decide+kernel) ?_ (by decide) (by decide))
 refine PyProof.Rows.callWith_builtin1 ?_ he rfl
 rw [he]
 refine Calls.spliced_cons (L2.thn (ha.thn I hG hS hx' hr) fun u s1 hz_=> ?_)
 obtain⟨v,d,G1,H1,I1,r1,st,q,k1⟩:=hz_
 refine Calls.spliced_cons (c.ev I1 (Calls.spliced_nil ?_))
 have k1':RK X.K ad G1 H1 (match P d with | some b=> .ok (.bl b) | none=> .bad) Q E:=k1
 cases e:P d with
 | none=>rw [e] at k1';exact k1'.elim
 | some b=>
  rw [e] at k1'
  obtain⟨ty,e1,e2⟩:=k d b e
  exact xW hx I1 st.gh q r1 e1 e2 fun tk=>⟨.bl b,H1,I1.tok tk,rfl,k1'.ok_now st.gh aK⟩
end
noncomputable def pyName:Py→Str
 | .len=>"len" | .range=>"range" | .enum=>"enumerate" | .zip=>"zip" | .isin=>"isinstance" | .int=>"int" | .bool=>"bool" | .str=>"str" | .tuple=>"tuple" | .list=>"list"
 | .sum=>"sum" | .all=>"all" | .any=>"any" | .sorted=>"sorted" | .min=>"min" | .max=>"max" | .abs=>"abs" | .set=>"set"
noncomputable def GlOk (X:Cx) (ad:Ad) (x:Str):SK.Gl→Prop
 | .fn k n F=> ∃ r f,FnGood X ad r x n F f∧Room r X.A∧f=ad.fnA k
 | .exc c=>X.mg x=some (.ref (ad.cls c))∧c<ad.nb
 | .verr=>x="ValueError"∧X.mg x=none
 | .val d=> ∃ u v,X.mg x=some u∧RelV v u∧ ∀ G,Rep X.K ad G d v
 | .py p=>x=pyName p∧X.mg x=none
structure CtxOk (X:Cx) (ad:Ad) (C:SK.Ctx):Prop where
 N:X.N=C.N
 nd:X.N.Nodup
 vis: ∀ x i,loc C x=some i→X.N[i]? =some x∧Vis X.env.scope x∧(x==("__debug__":Str))=false∧(x==("__classdict__":Str))=false
 gk: ∀ x,C.sc.names.lookup x=some .globalImplicit→L2.Gl X x
 gt: ∀ x g,C.tab.lookup x=some g→(x==("__debug__":Str))=false∧GlOk X ad x g
 cap: ∀ x i,capLoc C x=some i→X.env.kindOf x=some .cell∨X.env.kindOf x=some .free
 calm:X.calm=true
 un:X.A.units+62<cLine
 hd:X.A.handled=none
 exc: ∀ c,ExcCls X.K (ad.cls c)
 kin: ∀ c e,c<ad.nb→kitOne X.K (.ref (ad.cls e)) (.ref (ad.cls c))=some (hit c e)
 kve: ∀ e,kitOne X.K (.ref (ad.cls e)) (.type "ValueError")=some true
 fnv: ∀ j n F,C.fns[j]? =some (n,F)→ ∃ r,FnAt X ad r n F (ad.fnA j)∧Room r X.A
section
variable {X:Cx} {ad:Ad} {C:SK.Ctx}
theorem xY {x:Str} {g:SK.Gl} (h:glo C x=some g):C.sc.names.lookup x=some .globalImplicit∧C.tab.lookup x=some g:=by
 unfold glo at h
 split at h
 ·rename_i e;exact⟨e,h⟩
 ·cases h
theorem CtxOk.gl (O:CtxOk X ad C) {x:Str} {g:SK.Gl} (h:glo C x=some g):L2.Gl X x∧(x==("__debug__":Str))=false∧GlOk X ad x g:=
 let ⟨a,b⟩:=xY h
 ⟨O.gk x a,(O.gt x g b).1,(O.gt x g b).2⟩
theorem aBk {t:Str} {g:SK.Gl} {P:D→Option Bool} (O:CtxOk X ad C) (h:glo C t=some g) (e:isP g=some P): ∃ cv,ClNm X t cv∧IsOk X ad cv P:=by
 obtain⟨hg,hd,hk⟩:=O.gl h
 cases g with
 | fn _ _ _=>cases e
 | val _=>cases e
 | exc c=>
  cases e
  obtain⟨hm,hc⟩:=hk
  refine⟨.ref (ad.cls c), .own _ rfl hg hm hd,fun d b hb=> ?_⟩
  cases d<;>try (cases hb;done)
  rename_i k
  cases hb
  exact⟨_,rfl,O.kin c k hc⟩
 | verr=>
  cases e
  obtain⟨hx,hm⟩:=hk
  subst hx
  refine⟨.type "ValueError", .blt "ValueError" rfl hg hm (by decide+kernel) (by decide) hd,fun d b hb=> ?_⟩
  cases d<;>try (cases hb;done)
  rename_i k
  cases hb
  refine⟨_,rfl, ?_⟩
  rw [O.kve k]
  congr 1
  unfold hit
  simp
 | py p=>
  obtain⟨hx,hm⟩:=hk
  cases p<;>try (cases e;done)
  all_goals
   cases e
   subst hx
  ·refine⟨.type "int", .blt "int" rfl hg hm (by decide+kernel) (by decide) hd,fun d b hb=> ?_⟩
   cases d<;>first | (cases hb;done) | (cases hb;exact⟨_,rfl,by rfl⟩)
  ·refine⟨.type "bool", .blt "bool" rfl hg hm (by decide+kernel) (by decide) hd,fun d b hb=> ?_⟩
   cases d<;>first | (cases hb;done) | (cases hb;exact⟨_,rfl,by rfl⟩)
  ·refine⟨.type "str", .blt "str" rfl hg hm (by decide+kernel) (by decide) hd,fun d b hb=> ?_⟩
   cases d<;>first | (cases hb;done) | (cases hb;exact⟨_,rfl,by rfl⟩)
  ·refine⟨.type "tuple", .blt "tuple" rfl hg hm (by decide+kernel) (by decide) hd,fun d b hb=> ?_⟩
   cases d<;>first | (cases hb;done) | (cases hb;exact⟨_,rfl,by rfl⟩)
  ·refine⟨.type "list", .blt "list" rfl hg hm (by decide+kernel) (by decide) hd,fun d b hb=> ?_⟩
   cases d<;>first | (cases hb;done) | (cases hb;exact⟨_,rfl,by rfl⟩)
theorem cJ {x:Str} {k:NameKind} {l:List (Str×NameKind)} (h:(l.lookup x==some k)=true):l.lookup x=some k:=by simpa using h
theorem dQ {sc:Scope} {xs:List Str} (h:compOk sc xs=true):sc.kind= .function∧(cels sc=[]∨(cels sc=xs∧xs.length=1))∧(∀ x∈xs,sc.names.lookup x=some (if(cels sc).isEmpty then .local else .cell))∧(∀ y∈sc.names,y.2= .local→sc.names.lookup y.1=some .local)∧
  (xs++frees sc).Nodup∧(∀ x∈xs++frees sc,(x==("__debug__":Str))=false∧(x==("__classdict__":Str))=false)∧ ∀ x∈frees sc,sc.names.lookup x=some .free:=by
 unfold compOk at h
 simp only [Bool.and_eq_true] at h
 obtain⟨⟨⟨⟨⟨⟨h1,h2⟩,h3⟩,h4⟩,h5⟩,h6⟩,h7⟩:=h
 refine⟨by simpa using h1,by simpa using h2,fun x hx=> ?_,fun y hy z=> ?_,of_decide_eq_true h5,fun x hx=> ?_,fun x hx=> ?_⟩
 ·exact cJ (zAd h3 x hx)
 ·have:=zAd h4 y hy
  rw [z] at this
  simpa using this
 ·have:=zAd h6 x hx
  simpa using this
 ·exact cJ (zAd h7 x hx)
theorem pH {x:Str} {N:List Str} {i:Nat} (h:idx x N=some i):x∈N:=List.mem_of_getElem? (eP h)
theorem pI {x:Str} {i:Nat} (h:loc C x=some i):idx x C.N=some i∧(C.sc.names.lookup x=some .local∨C.sc.names.lookup x=some .cell∨C.sc.names.lookup x=some .free):=by
 unfold loc at h
 split at h
 ·rename_i e;exact⟨h, .inl e⟩
 ·rename_i e;exact⟨h, .inr (.inl e)⟩
 ·rename_i e;exact⟨h, .inr (.inr e)⟩
 ·cases h
theorem fP {x:Str} {i:Nat} (h:capLoc C x=some i):idx x C.N=some i∧(C.sc.names.lookup x=some .cell∨C.sc.names.lookup x=some .free):=by
 unfold capLoc at h
 split at h
 ·rename_i e;exact⟨h, .inl e⟩
 ·rename_i e;exact⟨h, .inr e⟩
 ·cases h
theorem lU {α β:Type} {f:α→Option β}: ∀ {l:List α} {r:List β},mapO f l=some r→ ∀ a∈l, ∃ b,f a=some b
 | [],_,_,a,ha=>by cases ha
 | x::l,r,h,a,ha=>by
  unfold mapO at h
  cases e:f x with
  | none=>rw [e] at h;cases h
  | some y=>
   rw [e] at h
   obtain⟨r',h1,_⟩:=zMd h
   rcases List.mem_cons.mp ha with rfl | ha
   ·exact⟨y,e⟩
   ·exact lU h1 a ha
theorem fQ {x:Str} {k:NameKind} {l:List (Str×NameKind)} (h:l.lookup x=some k):(x,k)∈l:=PySem.mem_of_lookup h
theorem lV {x:Str} {sc:Scope} (h:(x,NameKind.free)∈sc.names):x∈frees sc:=by
 unfold frees
 exact List.mem_map.mpr ⟨(x, .free),List.mem_filter.mpr ⟨h,by simp⟩,rfl⟩
theorem pJ {sc:Scope} {xs:List Str} {cs:List Nat} (O:CtxOk X ad C) (h:compOk sc xs=true) (hc:mapO (fun x=>capLoc C x) (frees sc)=some cs):CompSc X C sc xs cs:=by
 obtain⟨h1,h2,h3,h4,h5,h6,h7⟩:=dQ h
 have hC:Cel sc:=by
  rcases h2 with z | ⟨z,l⟩
  ·exact .inl z
  ·obtain⟨x,rfl⟩:=List.length_eq_one_iff.mp l
   have:=h3 x (.head _)
   rw [z] at this
   exact .inr ⟨x,z,this⟩
 refine⟨h1,hC,h4,fun x hx=> ?_,fun x hx=>h7 x (lV hx),O.N,hc⟩
 obtain⟨i,e⟩:=lU hc x (lV hx)
 exact O.cap x i e
theorem xZ {tg:Expr} {xs:List Str} {k:Nat} {x:Str} (hN:X.N.Nodup) (e:tgNames tg=some (xs,k)) (hx:xs=[x]) (h1:X.N[0]? =some x) (h2:X.env.scope.names.lookup x=some .cell) (h3:X.fn x=true):PG X tg (gTg X.K k):=by
 subst hx
 cases tg<;>try (cases e)
 ·exact eI hN h1 (.inr h2) (.inl h3)
 ·rename_i es j px
  unfold tgNames at e
  obtain⟨ys,e1,e2⟩:=zBd e
  by_cases hl:2≤ys.length
  ·rw [if_pos hl] at e2
   cases e2
   exact absurd hl (by simp)
  ·rw [if_neg hl] at e2
   cases e2
theorem aBl {sc:Scope} {xs:List Str} {cs:List Nat} {s3:Shared} {H3:Hp} {fp:List Addr} {pins:List (Addr×Obj)} (O:CtxOk X ad C) (h:compOk sc xs=true) (hc:mapO (fun x=>capLoc C x) (frees sc)=some cs):
  CtxOk (cX X (xs++frees sc) sc s3 H3 fp pins) ad { C with sc:=sc,N:=xs++frees sc }:=by
 obtain⟨h1,h2,h3,h4,h5,h6,h7⟩:=dQ h
 have rl: ∀ x,(relabel sc X.env).names.lookup x=(sc.names.lookup x).map (fun k=>if(k==NameKind.free&&X.env.scope.kind== .function&&X.env.kindOf x==some .cell) then NameKind.cell else k):=fun x=>aO
 have fr: ∀ x,sc.names.lookup x=some .free→(relabel sc X.env).names.lookup x=some .cell∨(relabel sc X.env).names.lookup x=some .free:=fun x e=>by
  rw [rl x,e]
  simp only [Option.map]
  split
  ·exact .inl rfl
  ·exact .inr rfl
 have nc: ∀ x,sc.names.lookup x=some .cell→(relabel sc X.env).names.lookup x=some .cell:=fun x e=>by rw [rl x,e];rfl
 refine⟨rfl,h5,fun x i e=> ?_,fun x e=> ?_,fun x g e=> ?_,fun x i e=> ?_,O.calm,O.un,O.hd,O.exc,O.kin,O.kve,fun j n F e=>let ⟨r,T,hr⟩:=O.fnv j n F e;⟨r,⟨T.kp,T.ok⟩,hr⟩⟩
 ·obtain⟨e1,e2⟩:=pI e
  have hm:=pH e1
  refine⟨eP e1, ?_,(h6 x hm).1,(h6 x hm).2⟩
  rcases e2 with e2 | e2 | e2
  ·refine .inl ?_
   show(relabel sc X.env).names.lookup x=some .local
   rw [rl x]
   have:sc.names.lookup x=some .local:=e2
   rw [this]
   rfl
  ·exact .inr (.inl (nc x e2))
  ·rcases fr x e2 with z | z
   ·exact .inr (.inl z)
   ·exact .inr (.inr z)
 ·show(relabel sc X.env).names.lookup x=some .globalImplicit
  rw [rl x]
  have:sc.names.lookup x=some .globalImplicit:=e
  rw [this]
  rfl
 ·obtain⟨e1,e2⟩:=O.gt x g e
  refine⟨e1, ?_⟩
  cases g with
  | fn k n F=>
   obtain⟨r,f,T,hr,hf⟩:=e2
   exact⟨r,f,⟨T.mg,T.kp,T.ok⟩,hr,hf⟩
  | exc c=>exact e2
  | verr=>exact e2
  | val d=>exact e2
  | py p=>exact e2
 ·obtain⟨e1,e2⟩:=fP e
  rcases e2 with e2 | e2
  ·exact .inl (nc x e2)
  ·exact fr x e2
end
section
variable {prog:Program} {w:World} {A:Around} {Ex:Value→Shared→Prop} {s:Shared}
theorem nI {it t:Addr} {i:Nat} {items:Array Value} {x:Value} {Q:Value→Shared→Prop} (hit:s.heap.IsTupleIter it t i) (ht:s.heap.IsTuple t items) (hx:items[i]? =some x)
  (hQ: ∀ h',h'.IsTupleIter it t (i+1)→Heap.SameBut it s.heap h'→Q x { s with heap:=h' }):wpAny (model prog w) A (Builtin.SmallTypes.nextOf (.ref it)) Q Ex s:=by
 obtain⟨o,o1,o2,o3⟩:=id hit
 obtain⟨u,u1,_,nu,u2⟩:=ht
 unfold Builtin.SmallTypes.nextOf
 refine wpAny_bind (wpAny_callSpecial?_slot (name:=Str.ofString "__next__") hit.typeIs F.slot_tuple_iterator_next (wpAny_call_entry F.slot_tuple_iterator_next hit.typeIs F.entry_tuple_iterator_next ?_ (F.args_tuple_iterator_next_1 _)))
 show wpAny _ _ (field (.ref it) 0 >>= _) _ _ s
 refine wpAny_bind (wpAny_field o1 o3 (x:= .ref t) rfl ?_)
 show wpAny _ _ (if(Value.ref t==Value.none)=true then _ else _) _ _ s;rw [if_neg (show ¬ ((Value.ref t==Value.none)=true) from Bool.false_ne_true)]
 show wpAny _ _ (field (.ref it) 1 >>= _) _ _ s
 refine wpAny_bind (wpAny_field o1 o3 (x:= .int i 0) rfl ?_)
 show wpAny _ _ (seqItems? (.ref t) >>= _) _ _ s
 refine wpAny_bind (wpAny_seqItems u1 u2 ?_)
 simp only [Int.toNat_natCast,hx]
 refine wpAny_bind (wpAny_setField o1 o3 (by simp) (wpAny_pure ⟨x,rfl,wpAny_pure (hQ _ ?_ (Heap.SameBut.update ..))⟩))
 exact⟨_,Heap.get?_update_self _ o1 (Obj.isFreed_of_fields (Obj.data_mapFields o3 _)),(Obj.cls_mapFields ..).trans o2,by rw [Obj.data_mapFields o3];simp [rawInt]⟩
theorem pK {it t:Addr} {i:Nat} {items:Array Value} {Q:Value→Shared→Prop} (hh:A.handled=none) (hit:s.heap.IsTupleIter it t i) (ht:s.heap.IsTuple t items) (hx:items[i]? =none)
  (hE: ∀ h' e,Heap.ExtBut it s.heap h'→(∃ o,h'.get? e=some o∧o.cls= .type "StopIteration")→Ex (.ref e) { s with heap:=h' }):wpAny (model prog w) A (Builtin.SmallTypes.nextOf (.ref it)) Q Ex s:=by
 obtain⟨o,o1,o2,o3⟩:=id hit
 obtain⟨u,u1,_,nu,u2⟩:=ht
 unfold Builtin.SmallTypes.nextOf
 refine wpAny_bind (wpAny_callSpecial?_slot (name:=Str.ofString "__next__") hit.typeIs F.slot_tuple_iterator_next (wpAny_call_entry F.slot_tuple_iterator_next hit.typeIs F.entry_tuple_iterator_next ?_ (F.args_tuple_iterator_next_1 _)))
 show wpAny _ _ (field (.ref it) 0 >>= _) _ _ s
 refine wpAny_bind (wpAny_field o1 o3 (x:= .ref t) rfl ?_)
 show wpAny _ _ (if(Value.ref t==Value.none)=true then _ else _) _ _ s;rw [if_neg (show ¬ ((Value.ref t==Value.none)=true) from Bool.false_ne_true)]
 show wpAny _ _ (field (.ref it) 1 >>= _) _ _ s
 refine wpAny_bind (wpAny_field o1 o3 (x:= .int i 0) rfl ?_)
 show wpAny _ _ (seqItems? (.ref t) >>= _) _ _ s
 refine wpAny_bind (wpAny_seqItems u1 u2 ?_)
 simp only [Int.toNat_natCast,hx]
 refine wpAny_bind (wpAny_rule (wpAny_bind (wpAny_setField o1 o3 (by simp) ?_)))
 show wpAny _ _ (newExc (.type "StopIteration") [] >>= _) _ _ _
 refine wpAny_bind ?_;simp only [newExc,newTuple]
 refine wpAny_bind (wpAny_newObj_type ?_ (by size_fits));refine wpAny_bind (m:=firstArgMember _ _) (wpAny_of_eq (a:=Value.none) (by first | rfl | (simp only [firstArgMember];rfl)) ?_)
 refine wpAny_newObj_type ?_ (by size_fits);simp only [raiseNew]
 refine wpAny_bind (wpAny_handled ?_)
 first | rw [show A.in1.handled=none from hh] | rw [hh]
 refine wpAny_bind (wpAny_pure (wpAny_throw ?_))
 refine hE _ _ (fun b ob ne e=> ?_) ⟨_,Heap.get?_push_size _ rfl,rfl⟩
 exact Heap.get?_push_of_some _ (Heap.get?_push_of_some _ ((Heap.get?_update_other _ _ (Ne.symm ne)).trans e))
end
section
variable {prog:Program} {w:World} {A:Around} {Ex:Value→Shared→Prop} {s:Shared}
end
theorem pL {n l m:Nat} (a:l<n) (b:m<n):ZipApart (n+4) (n+2) (n+3) n (n+1) l m:=by
 constructor<;>(intro h;have h2:(_:Nat)=_:=h;revert h2;omega)
theorem bQ {X:Cx} {pins:List (Addr×Obj)} {σ:L2.St} {H:Hp} {s:Shared} {h':Heap} {t':Nat} {fp:List Addr} (I:Inv X pins σ H s) (k: ∀ b o,b∉fp→s.heap.get? b=some o→h'.get? b=some o) (hf: ∀ b∈fp,FpOk X pins H b):Inv X pins σ H { s with heap:=h',toks:=t' }:=by
 have nit: ∀ b u,H b=some u→b∉fp:=fun b u e z=>by rw [(hf b z).1] at e;cases e
 refine I.step (g':=s.gens) (d':=s.drawn) (ch:=fp) (fun b hb=> ?_) (fun b o _ _ hc e _=>k b o hc e) (fun b o _ _ hc e _=>⟨o.slots,k b o hc e⟩) (fun _ _ _ _ n=>n)
  (fun b o hc e=>⟨o,k b o hc e⟩) (fun _ _ e=>e) (fun _ _ _ e=>e) (fun b ps e=>⟨#[],by rw [e];simp⟩) (fun m hm=> ?_) (fun b u e=> ?_) I.bare
 ·obtain⟨_,f1,_,f3,f4,f5⟩:=hf b hb
  exact⟨f3,f1,f4,f5⟩
 ·obtain⟨o,es,ep,ho,r⟩:=hm
  exact⟨o,es,ep,k _ o (fun z=>(hf _ z).2.1 rfl) ho,r⟩
 ·refine(I.hok b u e).stay (fun c v hc q=>k c v ?_ q) (fun _ q=>q) fun _ _ q=>q
  rcases hc with z | z
  ·rw [z];exact nit b u e
  ·exact nit c _ z
section
variable {prog:Program} {w:World} {A:Around} {Ex:Value→Shared→Prop} {s:Shared}
theorem nJ {It:Heap→Nat→Prop} {e it:Addr} {i:Nat} {x old:Value} {Q:Option Value→Shared→Prop} (he:IsEnum s.heap e it i old) (hne:e≠it)
  (hn: ∀ (A':Around) (E':Value→Shared→Prop) (Q':Value→Shared→Prop),(∀ h',It h' (i+1)→Heap.SameBut it s.heap h'→Q' x { s with heap:=h' })→wpAny (model prog w) A' (Builtin.SmallTypes.nextOf (.ref it)) Q' E' s)
  (hk: ∀ h h',It h (i+1)→(∀ o,h.get? it=some o→h'.get? it=some o)→It h' (i+1))
  (hQ: ∀ h',IsEnumOut h' e it ((i:Int)+1) x s.heap.objs.size→It h' (i+1)→h'.get? s.heap.objs.size=some { cls:= .type "tuple",data:= .seq #[.int i s.toks,x] }→h'.objs.size=s.heap.objs.size+1→
   (∀ b o,b≠e→b≠it→s.heap.get? b=some o→h'.get? b=some o)→Q (some (.ref s.heap.objs.size)) { s with heap:=h',toks:=s.toks+1 }):wpAny (model prog w) A (pyNext (.ref e)) Q Ex s:=by
 have hT:s.TypeIs (.ref e) "enumerate":=⟨_,he,rfl⟩
 unfold pyNext
 refine wpAny_bind (wpAny_attempt (wpAny_callSpecial?_slot (name:=Str.ofString "__next__") hT F.slot_enumerate_next (wpAny_call_entry F.slot_enumerate_next hT F.entry_enumerate_next ?_ (F.args_enumerate_next_1 _))))
 obtain⟨hp,g,d,tk,os⟩:=s
 show wpAny _ _ (field (.ref e) 2 >>= _) _ _ _
 refine wpAny_bind (wpAny_field he rfl (x:= .ref it) rfl (wpAny_bind (hn _ _ _ fun g1 t1 s1=> ?_)))
 replace s1:Heap.SameBut it hp g1:=s1
 have e1:IsEnum g1 e it i old:=(s1.2 e hne).trans he
 show wpAny _ _ (field (.ref e) 3 >>= _) _ _ ⟨g1,g,d,tk,os⟩
 refine wpAny_bind (wpAny_field e1 rfl (x:=rawInt i) rfl ?_);show wpAny _ _ (field (.ref e) 4 >>= _) _ _ ⟨g1,g,d,tk,os⟩
 refine wpAny_bind (wpAny_field e1 rfl (x:= .none) rfl ?_);show wpAny _ _ (mkInt i >>= _) _ _ ⟨g1,g,d,tk,os⟩
 refine wpAny_bind (wpAny_mkInt ?_);show wpAny _ _ (setField (.ref e) 3 (rawInt ((i:Int)+1)) >>= _) _ _ ⟨g1,g,d,tk+1,os⟩
 refine wpAny_bind (wpAny_setField_rec e1 (by simp) fun g2 e2 s2=> ?_)
 replace s2:Heap.SameBut e g1 g2:=s2
 replace e2:IsEnum g2 e it ((i:Int)+1) old:=e2
 show wpAny _ _ (setField (.ref e) 4 .none >>= _) _ _ ⟨g2,g,d,tk+1,os⟩
 refine wpAny_bind (wpAny_setField_rec e2 (by simp) fun g3 e3 s3=> ?_)
 replace s3:Heap.SameBut e g2 g3:=s3
 replace e3:IsEnum g3 e it ((i:Int)+1) old:=e3
 show wpAny _ _ (newTuple [.int i tk,x] >>= _) _ _ ⟨g3,g,d,tk+1,os⟩
 refine wpAny_bind (wpAny_newTuple ?_)
 have e4:IsEnum (g3.push { cls:= .type "tuple",data:= .seq #[.int i tk,x] }) e it ((i:Int)+1) old:=Heap.get?_push_of_some _ e3
 generalize hg4:g3.push { cls:= .type "tuple",data:= .seq #[.int i tk,x] }=g4 at e4
 have hsz:g3.objs.size=hp.objs.size:=by rw [s3.1,s2.1,s1.1]
 have le:e<hp.objs.size:=Heap.lt_size he
 have t4:g4.get? hp.objs.size=some { cls:= .type "tuple",data:= .seq #[.int i tk,x] }:=by rw [←hg4, ←hsz];exact Heap.get?_push_size _ rfl
 have z4:g4.objs.size=hp.objs.size+1:=by rw [←hg4,Heap.size_push,hsz]
 have k4: ∀ b o,b≠e→b≠it→hp.get? b=some o→g4.get? b=some o:=fun b o n1 n2 q=>by
  rw [←hg4];exact Heap.get?_push_of_some _ ((s3.2 b n1).trans ((s2.2 b n1).trans ((s1.2 b n2).trans q)))
 have i4:It g4 (i+1):=hk g1 g4 t1 fun o q=>by rw [←hg4];exact Heap.get?_push_of_some _ ((s3.2 it hne.symm).trans ((s2.2 it hne.symm).trans q))
 show wpAny _ _ (Builtin.SmallTypes.ownedTupleIsFree (.ref e) >>= _) _ _ ⟨g4,g,d,tk+1,os⟩
 rw [hsz]
 refine wpAny_bind ?_;unfold Builtin.SmallTypes.ownedTupleIsFree
 refine wpAny_bind (wpAny_field e4 rfl (x:= .none) rfl (wpAny_pure ?_));simp only [if_true]
 refine wpAny_bind (wpAny_rule (wpAny_bind (wpAny_field e4 rfl (x:=old) rfl (wpAny_bind (wpAny_setField_rec e4 (by simp) fun g5 e5 s5=> ?_)))))
 replace s5:Heap.SameBut e g4 g5:=s5
 replace e5:IsEnum g5 e it ((i:Int)+1) x:=e5
 show wpAny _ _ (Builtin.SmallTypes.ownedTupleHandOut (.ref e) (.ref hp.objs.size) >>= _) _ _ ⟨g5,g,d,tk+1,os⟩
 refine wpAny_bind ?_;unfold Builtin.SmallTypes.ownedTupleHandOut
 refine wpAny_bind (wpAny_setField_rec e5 (by simp) fun g6 e6 s6=> ?_)
 replace s6:Heap.SameBut e g5 g6:=s6
 replace e6:IsEnumOut g6 e it ((i:Int)+1) x hp.objs.size:=e6
 refine wpAny_setField_rec e6 (by simp) fun g7 e7 s7=> ?_
 replace s7:Heap.SameBut e g6 g7:=s7
 replace e7:IsEnumOut g7 e it ((i:Int)+1) x hp.objs.size:=e7
 have up: ∀ b o,b≠e→g4.get? b=some o→g7.get? b=some o:=fun b o n q=>(s7.2 b n).trans ((s6.2 b n).trans ((s5.2 b n).trans q))
 refine wpAny_bind (wpAny_letGo (wpAny_pure ⟨_,rfl,wpAny_pure (hQ g7 e7 (hk g4 g7 i4 fun o q=>up it o hne.symm q) (up _ _ (Nat.ne_of_gt le) t4) ?_ fun b o n1 n2 q=>up b o n1 (k4 b o n1 n2 q))⟩))
 rw [s7.1,s6.1,s5.1,z4]
theorem pM {e it:Addr} {i:Nat} {old:Value} {Q:Option Value→Shared→Prop} (he:IsEnum s.heap e it i old)
  (hn: ∀ (A':Around) (E':Value→Shared→Prop) (Q':Value→Shared→Prop),A'.handled=A.handled→(∀ h' x,Heap.ExtBut it s.heap h'→(∃ o,h'.get? x=some o∧o.cls= .type "StopIteration")→E' (.ref x) { s with heap:=h' })→wpAny (model prog w) A' (Builtin.SmallTypes.nextOf (.ref it)) Q' E' s)
  (hQ: ∀ h',Heap.ExtBut it s.heap h'→Q none { s with heap:=h' }):wpAny (model prog w) A (pyNext (.ref e)) Q Ex s:=by
 have hT:s.TypeIs (.ref e) "enumerate":=⟨_,he,rfl⟩
 unfold pyNext
 refine wpAny_bind (wpAny_attempt (wpAny_callSpecial?_slot (name:=Str.ofString "__next__") hT F.slot_enumerate_next (wpAny_call_entry F.slot_enumerate_next hT F.entry_enumerate_next ?_ (F.args_enumerate_next_1 _))))
 show wpAny _ _ (field (.ref e) 2 >>= _) _ _ _
 refine wpAny_bind (wpAny_field he rfl (x:= .ref it) rfl (wpAny_bind (hn _ _ _ rfl fun h' x k q=> ?_)))
 obtain⟨o,ho,hc⟩:=q
 exact wpAny_bind (wpAny_isInstance (T:="StopIteration") (b:=true) ⟨o,ho,hc⟩ isSubtype_stop (wpAny_pure (hQ _ k)))
end
noncomputable abbrev eh (h:Heap) (T:String) (l:Addr):Heap:=(h.push { cls:= .type T,data:= .fields #[.ref l, .int 0 0] }).push { cls:= .type "enumerate",data:= .fields #[.none, .bool false, .ref h.objs.size,rawInt 0, .none, .none] }
open AutoSeq1 (wpAny_loadPart') in
theorem pN (l:Addr) (xs:Array Value) (n:Nat) (dd:Option Addr) (sl:Array (Option Value)):Meets (Builtin.«enumerate.__new__» ⟨[.type "enumerate", .ref l],[]⟩) (fun _ R s=>s.heap.get? l=some { cls:= .type "tuple",dict:=dd,data:= .seq xs n,slots:=sl }∧
  R (.ok (.ret (.ref (s.heap.objs.size+1)))) { s with heap:=eh s.heap "tuple_iterator" l }):=
 .of_wp fun prog w A R s h=>by
  obtain⟨hp,g,d,tk,os⟩:=s
  obtain⟨hl,h⟩:=h
  have hsub:=sub_enumerate
  have q1:Heap.IsTuple (Shared.heap ⟨hp,g,d,tk,os⟩) l xs:=⟨_,hl,rfl,n,rfl⟩
  rw [←show(hp.push { cls:= .type "tuple_iterator",data:= .fields #[.ref l, .int 0 0] }).objs.size=hp.objs.size+1 from Heap.size_push ..] at h
  wp_walk using wpAny_loadPart' hl
  refine wpAny_stack_any fun st=>wpAny_pure ?_
  split
  ·rename_i c _ _ _ _ _
   cases (c==Value.type "enumerate")
   ·wp_walk using wpAny_loadPart' hl,wpAny_pyIter_tuple q1
    exact⟨_,rfl,h⟩
   ·wp_walk using wpAny_loadPart' hl,wpAny_pyIter_tuple q1
    exact⟨_,rfl,h⟩
  ·wp_walk using wpAny_loadPart' hl,wpAny_pyIter_tuple q1
   exact⟨_,rfl,h⟩
open AutoSeq1 (wpAny_loadPart') in
theorem pO (l:Addr) (xs:Array Value) (n:Nat) (dd:Option Addr) (sl:Array (Option Value)):Meets (Builtin.«enumerate.__new__» ⟨[.type "enumerate", .ref l],[]⟩) (fun _ R s=>s.heap.get? l=some { cls:= .type "list",dict:=dd,data:= .seq xs n,slots:=sl }∧
  R (.ok (.ret (.ref (s.heap.objs.size+1)))) { s with heap:=eh s.heap "list_iterator" l }):=
 .of_wp fun prog w A R s h=>by
  obtain⟨hp,g,d,tk,os⟩:=s
  obtain⟨hl,h⟩:=h
  have hsub:=sub_enumerate
  have q1:Heap.IsList (Shared.heap ⟨hp,g,d,tk,os⟩) l xs:=⟨_,hl,rfl,n,rfl⟩
  rw [←show(hp.push { cls:= .type "list_iterator",data:= .fields #[.ref l, .int 0 0] }).objs.size=hp.objs.size+1 from Heap.size_push ..] at h
  wp_walk using wpAny_loadPart' hl
  refine wpAny_stack_any fun st=>wpAny_pure ?_
  split
  ·rename_i c _ _ _ _ _
   cases (c==Value.type "enumerate")
   ·wp_walk using wpAny_loadPart' hl,wpAny_pyIter_list q1
    exact⟨_,rfl,h⟩
   ·wp_walk using wpAny_loadPart' hl,wpAny_pyIter_list q1
    exact⟨_,rfl,h⟩
  ·wp_walk using wpAny_loadPart' hl,wpAny_pyIter_list q1
   exact⟨_,rfl,h⟩
section
variable {prog:Program} {w:World} {A:Around} {Ex:Value→Shared→Prop} {s:Shared}
theorem nK {l:Addr} {xs:Array Value} {Q:Value→Shared→Prop} (hl:s.heap.IsTuple l xs)
  (h: ∀ h',IsEnum h' (s.heap.objs.size+1) s.heap.objs.size 0 .none→h'.IsTupleIter s.heap.objs.size l 0→h'.objs.size=s.heap.objs.size+2→(∀ b o,s.heap.get? b=some o→h'.get? b=some o)→Q (.ref (s.heap.objs.size+1)) { s with heap:=h' }):
  wpAny (model prog w) A (call (.type "enumerate") [.ref l]) Q Ex s:=by
 obtain⟨⟨c,dd,da,sl⟩,e1,e2,n,e3⟩:=hl
 simp only at e2 e3;subst e2 e3
 refine callType_new F.called_enumerate (by decide) (F.typeCall_enumerate_1 _) (F.newCall_enumerate_1 _) (fun obj=>F.args_object_init_2 obj _) F.entry_enumerate_new (pN l xs n dd sl) ⟨e1, ?_⟩
 have hz:(s.heap.push { cls:= .type "tuple_iterator",data:= .fields #[.ref l, .int 0 0] }).objs.size=s.heap.objs.size+1:=Heap.size_push ..
 have he:IsEnum (eh s.heap "tuple_iterator" l) (s.heap.objs.size+1) s.heap.objs.size 0 .none:=by rw [←hz];exact Heap.get?_push_size _ rfl
 exact⟨⟨_,he,rfl⟩,h _ he ⟨_,Heap.get?_push_of_some _ (Heap.get?_push_size _ rfl),rfl,rfl⟩ (by rw [Heap.size_push,hz]) fun b o x=>Heap.get?_push_of_some _ (Heap.get?_push_of_some _ x)⟩
theorem nL {l:Addr} {xs:Array Value} {Q:Value→Shared→Prop} (hl:s.heap.IsList l xs)
  (h: ∀ h',IsEnum h' (s.heap.objs.size+1) s.heap.objs.size 0 .none→h'.IsListIter s.heap.objs.size l 0→h'.objs.size=s.heap.objs.size+2→(∀ b o,s.heap.get? b=some o→h'.get? b=some o)→Q (.ref (s.heap.objs.size+1)) { s with heap:=h' }):
  wpAny (model prog w) A (call (.type "enumerate") [.ref l]) Q Ex s:=by
 obtain⟨⟨c,dd,da,sl⟩,e1,e2,n,e3⟩:=hl
 simp only at e2 e3;subst e2 e3
 refine callType_new F.called_enumerate (by decide) (F.typeCall_enumerate_1 _) (F.newCall_enumerate_1 _) (fun obj=>F.args_object_init_2 obj _) F.entry_enumerate_new (pO l xs n dd sl) ⟨e1, ?_⟩
 have hz:(s.heap.push { cls:= .type "list_iterator",data:= .fields #[.ref l, .int 0 0] }).objs.size=s.heap.objs.size+1:=Heap.size_push ..
 have he:IsEnum (eh s.heap "list_iterator" l) (s.heap.objs.size+1) s.heap.objs.size 0 .none:=by rw [←hz];exact Heap.get?_push_size _ rfl
 exact⟨⟨_,he,rfl⟩,h _ he ⟨_,Heap.get?_push_of_some _ (Heap.get?_push_size _ rfl),rfl,rfl⟩ (by rw [Heap.size_push,hz]) fun b o x=>Heap.get?_push_of_some _ (Heap.get?_push_of_some _ x)⟩
end
def SqA (t:Bool) (K:PySem.W.Frag) (H:Hp) (a:Addr) (xs:List V):Prop:=match t with
 | true=>SqT K H a xs
 | false=>SqL K H a xs
def ItA (t:Bool) (h:Heap) (it l:Addr) (i:Nat):Prop:=match t with
 | true=>h.IsTupleIter it l i
 | false=>h.IsListIter it l i
def SeA (t:Bool) (h:Heap) (l:Addr) (xs:Array Value):Prop:=match t with
 | true=>h.IsTuple l xs
 | false=>h.IsList l xs
section
variable {X:Cx} {pins:List (Addr×Obj)} {σ:L2.St} {H:Hp} {s:Shared} {t:Bool}
theorem bW {a:Addr} {xs:List V} (I:Inv X pins σ H s) (h:SqA t X.K H a xs): ∃ its:List Value,Vals xs its∧SeA t s.heap a its.toArray∧xs.length≤sizeLine:=by
 cases t with
 | true=>
  obtain⟨its,r,p,z⟩:=I.tuple h
  exact⟨its,r,p,z⟩
 | false=>
  obtain⟨its,r,p,z⟩:=I.list h
  exact⟨its,r,p.isList,z⟩
theorem cV {a:Addr} {xs ys:List V} (I:Inv X pins σ H s) (h:SqA t X.K H a xs) (h':SqA t X.K H a ys):xs=ys:=by
 cases t with
 | true=>exact I.tuple_inj h h'
 | false=>exact I.list_inj h h'
theorem aA {K:PySem.W.Frag} {H H':Hp} {a:Addr} {xs:List V} (e:Same H H') (h:SqA t K H a xs):SqA t K H' a xs:=by
 cases t with
 | true=>exact e.seqT h
 | false=>exact e.seq h
theorem aT {h h':Heap} {it l:Addr} {i:Nat} (q:ItA t h it l i) (k: ∀ o,h.get? it=some o→h'.get? it=some o):ItA t h' it l i:=by
 cases t with
 | true=>obtain⟨o,e,r⟩:=q;exact⟨o,k o e,r⟩
 | false=>obtain⟨o,e,r⟩:=q;exact⟨o,k o e,r⟩
theorem pP {h:Heap} {it l:Addr} {i:Nat} (q:ItA t h it l i): ∃ o,h.get? it=some o∧ ∀ v,o.data≠ .cell v:=by
 cases t with
 | true=>obtain⟨o,e,_,d⟩:=q;exact⟨o,e,fun v z=>by rw [d] at z;cases z⟩
 | false=>obtain⟨o,e,_,d⟩:=q;exact⟨o,e,fun v z=>by rw [d] at z;cases z⟩
theorem cL {prog:Program} {w:World} {A:Around} {Ex:Value→Shared→Prop} {it l:Addr} {i:Nat} {xs:Array Value} {x:Value} {Q:Value→Shared→Prop} (q:ItA t s.heap it l i) (hl:SeA t s.heap l xs) (hx:xs[i]? =some x)
  (hQ: ∀ h',ItA t h' it l (i+1)→Heap.SameBut it s.heap h'→Q x { s with heap:=h' }):wpAny (model prog w) A (Builtin.SmallTypes.nextOf (.ref it)) Q Ex s:=by
 cases t with
 | true=>exact nI q hl hx hQ
 | false=>exact wpAny_nextOf_list_item q hl hx hQ
theorem eS {prog:Program} {w:World} {A:Around} {Ex:Value→Shared→Prop} {it l:Addr} {i:Nat} {xs:Array Value} {Q:Value→Shared→Prop} (hh:A.handled=none) (q:ItA t s.heap it l i) (hl:SeA t s.heap l xs) (hx:xs[i]? =none)
  (hE: ∀ h' e,Heap.ExtBut it s.heap h'→(∃ o,h'.get? e=some o∧o.cls= .type "StopIteration")→Ex (.ref e) { s with heap:=h' }):wpAny (model prog w) A (Builtin.SmallTypes.nextOf (.ref it)) Q Ex s:=by
 cases t with
 | true=>exact pK hh q hl hx hE
 | false=>exact wpAny_nextOf_list_end hh q hl hx hE
end
noncomputable def Ite (t:Bool) (K:PySem.W.Frag) (l:Addr):It:=
 ⟨fun i H=> ∃ xs x,SqA t K H l xs∧xs[i]? =some x,
  fun i H v H'=> ∃ p x,H p=none∧v= .ref p∧(∀ xs,SqA t K H l xs→xs[i]? =some x)∧H'=upd H p (.tup [.int i,x]),
  fun i H=> ∃ xs,SqA t K H l xs∧xs.length≤i⟩
theorem pQ {P:Program} {w:World} {K:PySem.W.Frag} {es:List Expr} {x1} {tp:Pos} {t:Bool} {e it l:Addr} (hne:e≠it):
  Turn P w K (.Tuple es x1 tp) (Ite t K l) [e,it] e (fun i h=>(∃ old,IsEnum h e it i old)∧ItA t h it l i) where
 mem:=by simp
 obj:=fun i h st b hb=>by
  obtain⟨⟨old,z1⟩,z2⟩:=st
  simp only [List.mem_cons,List.not_mem_nil,or_false] at hb
  rcases hb with rfl | rfl
  ·exact⟨_,z1,fun v e=>by cases e⟩
  ·exact pP z2
 keep:=fun i h h' st k=>by
  obtain⟨⟨old,z1⟩,z2⟩:=st
  exact⟨⟨old,k _ (by simp) _ z1⟩,aT z2 fun o q=>k _ (by simp) o q⟩
 item:=by
  intro X hP hw hK hc i pins s σ H E I hf st hg
  subst hP hw hK
  obtain⟨xs,x,q1,hx⟩:=hg
  obtain⟨us,r1,p1,_⟩:=bW I q1
  obtain⟨u,hu,ru⟩:=r1.get hx
  obtain⟨⟨old,z1⟩,z2⟩:=st
  have te:e<s.heap.objs.size:=Heap.lt_size z1
  have ti:it<s.heap.objs.size:=by obtain⟨o,q,_⟩:=pP z2;exact Heap.lt_size q
  refine nJ (It:=fun h j=>ItA t h it l j) (x:=u) z1 hne (fun A' E' Q' hq=>cL z2 p1 (by simpa using hu) hq) (fun h h' a k=>aT a k) fun h' a1 a2 a3 a4 a5=>⟨_,rfl, ?_⟩
  have hfr:H s.heap.objs.size=none:=I.hok.fresh (Nat.le_refl _)
  have Ia:Inv X pins σ (upd H s.heap.objs.size (.tup [.int i,x])) { s with heap:=s.heap.push { cls:= .type "tuple",data:= .seq #[.int i s.toks,u] },toks:=s.toks+1 }:=
   I.laid (t':=s.toks+1) (fun b o e=>Heap.get?_push_of_some _ e) (Nat.le_refl _) (show ObjOk X.prog X.w _ _ _ (.tup [.int i,x]) from⟨by rw [sizeLine_eq];simp,[.int i s.toks,u], .cons ⟨_,rfl⟩ (.cons ru .nil),⟨_,Heap.get?_push_size _ rfl,rfl,_,rfl⟩,⟨_,Heap.get?_push_size _ rfl,rfl⟩⟩)
  have hnew: ∀ b∈[e,it],b≠s.heap.objs.size:=fun b hb=>by
   simp only [List.mem_cons,List.not_mem_nil,or_false] at hb
   rcases hb with rfl | rfl
   ·exact Nat.ne_of_lt te
   ·exact Nat.ne_of_lt ti
  have hf2: ∀ b∈[e,it],FpOk X pins (upd H s.heap.objs.size (.tup [.int i,x])) b:=fun b hb=>⟨by rw [aF (hnew b hb)];exact(hf b hb).1,(hf b hb).2⟩
  have Ib:Inv X pins σ (upd H s.heap.objs.size (.tup [.int i,x])) { s with heap:=h',toks:=s.toks+1 }:=by
   refine bQ (s:={ s with heap:=s.heap.push { cls:= .type "tuple",data:= .seq #[.int i s.toks,u] },toks:=s.toks+1 }) (t':=s.toks+1) Ia (fun b o hb q=> ?_) hf2
   simp only [List.mem_cons,List.not_mem_nil,or_false,not_or] at hb
   by_cases hq:b=s.heap.objs.size
   ·subst hq
    rw [show(s.heap.push { cls:= .type "tuple",data:= .seq #[.int i s.toks,u] }).get? s.heap.objs.size=some _ from Heap.get?_push_size _ rfl] at q
    cases q
    exact a3
   ·exact a5 b o hb.1 hb.2 ((Heap.get?_push_ne _ b _ hq).symm.trans q)
  refine wpAny_letOwnedTupleGo_enum a1 fun h2 b1 b2=> ?_
  have Ic:Inv X pins σ (upd H s.heap.objs.size (.tup [.int i,x])) { s with heap:=h2,toks:=s.toks+1 }:=bQ (s:={ s with heap:=h',toks:=s.toks+1 }) (t':=s.toks+1) Ib (fun b o hb q=>(b2.2 b (fun z=>hb (by simp [z]))).trans q) hf2
  refine⟨.ref s.heap.objs.size,_,Ic,rfl,⟨_,x,hfr,rfl,fun xs' hx'=>by rw [cV I hx' q1];exact hx,rfl⟩,⟨⟨u, ?_⟩,aT a2 fun o q=>(b2.2 it hne.symm).trans q⟩,fun b hb=>(hf2 b hb).1⟩
  rw [Int.natCast_add];exact b1
 done:=by
  intro X hP hw hK hc i pins s σ H E I hf st hg
  subst hP hw hK
  obtain⟨xs,q1,hx⟩:=hg
  obtain⟨us,r1,p1,_⟩:=bW I q1
  obtain⟨⟨old,z1⟩,z2⟩:=st
  have n1:=r1.length
  refine pM z1 (fun A' E' Q' ha hq=>eS (ha.trans (I.ok.hd hc)) z2 p1 (by simp;omega) hq) fun h' k=>⟨rfl,bQ (t':=s.toks) I (fun b o hb q=> ?_) hf⟩
  simp only [List.mem_cons,List.not_mem_nil,or_false,not_or] at hb
  exact k b o hb.2 q
 self:=fun _ _ _ _ _ st h=>by
  obtain⟨⟨old,z1⟩,_⟩:=st
  exact wpAny_pyIter_enum z1 h
theorem nM {prog:Program} {w:World} {A:Around} {Ex:Value→Shared→Prop} {s:Shared} {t:Bool} {l:Addr} {xs:Array Value} {Q:Value→Shared→Prop} (hl:SeA t s.heap l xs)
  (h: ∀ h',IsEnum h' (s.heap.objs.size+1) s.heap.objs.size 0 .none→ItA t h' s.heap.objs.size l 0→h'.objs.size=s.heap.objs.size+2→(∀ b o,s.heap.get? b=some o→h'.get? b=some o)→Q (.ref (s.heap.objs.size+1)) { s with heap:=h' }):
  wpAny (model prog w) A (call (.type "enumerate") [.ref l]) Q Ex s:=by
 cases t with
 | true=>exact nK hl h
 | false=>exact nL hl h
theorem pR {t:Bool} {h h':Heap} {l:Addr} {it:Array Value} (q:SeA t h l it) (k: ∀ o,h.get? l=some o→h'.get? l=some o):SeA t h' l it:=by
 cases t with
 | true=>obtain⟨o,e1,e2⟩:=q;exact⟨o,k o e1,e2⟩
 | false=>obtain⟨o,e1,e2⟩:=q;exact⟨o,k o e1,e2⟩
theorem gO {t:Bool} {h:Heap} {it l:Addr} {k:Nat} (x:ItA t h it l k): ∃ o,h.get? it=some o∧o.data= .fields #[.ref l, .int k 0]:=by
 cases t with
 | true=>obtain⟨o,a,_,c⟩:=x;exact⟨o,a,c⟩
 | false=>obtain⟨o,a,_,c⟩:=x;exact⟨o,a,c⟩
section
variable {prog:Program} {w:World} {A:Around} {Ex:Value→Shared→Prop} {s:Shared} {t t2:Bool}
theorem pS {z TI TO i1 i2 l1 l2:Addr} {k1 k2:Nat} {xs ys:Array Value} {x y a b:Value} {Q:Option Value→Shared→Prop} (D:ZipApart z TI TO i1 i2 l1 l2) (hz:IsZip s.heap z TI TO .none) (hTI:IsPair s.heap TI (.ref i1) (.ref i2)) (hTO:IsPair s.heap TO a b)
  (h1:ItA t s.heap i1 l1 k1) (h2:ItA t2 s.heap i2 l2 k2) (hl1:SeA t s.heap l1 xs) (hl2:SeA t2 s.heap l2 ys) (hx:xs[k1]? =some x) (hy:ys[k2]? =some y)
  (hQ: ∀ h',IsZip h' z TI TO (rawInt s.heap.objs.size)→IsPair h' TO x y→ItA t h' i1 l1 (k1+1)→ItA t2 h' i2 l2 (k2+1)→IsPair h' s.heap.objs.size x y→h'.objs.size=s.heap.objs.size+1→
   (∀ c o,c≠z→c≠TO→c≠i1→c≠i2→s.heap.get? c=some o→h'.get? c=some o)→Q (some (.ref s.heap.objs.size)) { s with heap:=h' }):wpAny (model prog w) A (pyNext (.ref z)) Q Ex s:=by
 have hT:s.TypeIs (.ref z) "zip":=⟨_,hz,rfl⟩
 have isT: ∀ {t:Bool} {h h':Heap} {it l:Addr} {k:Nat} {c:Addr},ItA t h it l k→Heap.SameBut c h h'→it≠c→ItA t h' it l k:=fun q sb ne=>aT q fun o e=>(sb.2 _ ne).trans e
 have isU: ∀ {t:Bool} {h h':Heap} {l:Addr} {it:Array Value} {c:Addr},SeA t h l it→Heap.SameBut c h h'→l≠c→SeA t h' l it:=fun q sb ne=>pR q fun o e=>(sb.2 _ ne).trans e
 unfold pyNext
 refine wpAny_bind (wpAny_attempt (wpAny_callSpecial?_slot (name:=Str.ofString "__next__") hT F.slot_zip_next (wpAny_call_entry F.slot_zip_next hT F.entry_zip_next ?_ (F.args_zip_next_1 _))))
 show wpAny _ _ (field (.ref z) 2 >>= _) _ _ _
 refine wpAny_bind (wpAny_field hz rfl (x:= .bool false) rfl ?_)
 show wpAny _ _ (field (.ref z) 3 >>= _) _ _ _
 refine wpAny_bind (wpAny_field hz rfl (x:= .ref TI) rfl (wpAny_bind (wpAny_seqItems hTI rfl ?_)))
 show wpAny _ _ (Builtin.SmallTypes.ownedTupleIsFree (.ref z) >>= _) _ _ _
 refine wpAny_bind ?_;unfold Builtin.SmallTypes.ownedTupleIsFree
 refine wpAny_bind (wpAny_field hz rfl (x:= .none) rfl (wpAny_pure ?_));simp only [if_true]
 refine wpAny_bind (wpAny_rule (wpAny_bind (wpAny_field hz rfl (x:= .ref TO) rfl (wpAny_bind (wpAny_setField_rec hz (by simp) fun g1 z1 s1=> ?_)))))
 replace z1:IsZip g1 z TI TO .ellipsis:=z1
 refine wpAny_bind ?_;simp only [List.zipIdx_cons,List.zipIdx_nil,List.forIn_cons,List.forIn_nil]
 refine wpAny_bind (wpAny_bind (wpAny_onRaise ?_));show wpAny _ _ (Builtin.SmallTypes.nextOf (.ref i1) >>= _) _ _ _
 refine wpAny_bind (cL (isT h1 s1 D.i1z) (isU hl1 s1 D.l1z) hx fun g2 p2 s2=>wpAny_pure ?_)
 have o2:IsPair g2 TO a b:=(s2.2 _ D.TOi1).trans ((s1.2 _ D.TOz).trans hTO)
 refine wpAny_bind (wpAny_seqItems o2 rfl (wpAny_bind (wpAny_updateSeq_pair o2 fun g3 o3 s3=> ?_)))
 replace o3:IsPair g3 TO x b:=o3
 refine wpAny_bind (wpAny_letGo (wpAny_pure (wpAny_bind (wpAny_bind (wpAny_onRaise ?_)))));show wpAny _ _ (Builtin.SmallTypes.nextOf (.ref i2) >>= _) _ _ _
 refine wpAny_bind (cL (isT (isT (isT h2 s1 D.i2z) s2 D.i12.symm) s3 D.TOi2.symm) (isU (isU (isU hl2 s1 D.l2z) s2 D.l2i1) s3 D.l2TO) hy fun g4 p4 s4=>wpAny_pure ?_)
 have o4:IsPair g4 TO x b:=(s4.2 _ D.TOi2).trans o3
 refine wpAny_bind (wpAny_seqItems o4 rfl (wpAny_bind (wpAny_updateSeq_pair o4 fun g5 o5 s5=> ?_)))
 replace o5:IsPair g5 TO x y:=o5
 refine wpAny_bind (wpAny_letGo (wpAny_pure (wpAny_pure (wpAny_bind (wpAny_seqItems o5 rfl (wpAny_bind (wpAny_newTuple ?_)))))))
 have hsz:g5.objs.size=s.heap.objs.size:=by rw [s5.1,s4.1,s3.1,s2.1,s1.1]
 have z5:IsZip g5 z TI TO .ellipsis:=(s5.2 _ D.TOz.symm).trans ((s4.2 _ D.i2z.symm).trans ((s3.2 _ D.TOz.symm).trans ((s2.2 _ D.i1z.symm).trans z1)))
 have k5: ∀ c o,c≠z→c≠TO→c≠i1→c≠i2→s.heap.get? c=some o→g5.get? c=some o:=fun c o c1 c2 c3 c4 e=>(s5.2 _ c2).trans ((s4.2 _ c4).trans ((s3.2 _ c2).trans ((s2.2 _ c3).trans ((s1.2 _ c1).trans e))))
 have q1:ItA t g5 i1 l1 (k1+1):=isT (isT (isT p2 s3 D.TOi1.symm) s4 D.i12) s5 D.TOi1.symm
 have q2:ItA t2 g5 i2 l2 (k2+1):=isT p4 s5 D.TOi2.symm
 have lz:z<g5.objs.size:=Heap.lt_size z5
 show wpAny _ _ (Builtin.SmallTypes.ownedTupleHandOut (.ref z) (.ref g5.objs.size) >>= _) _ _ _
 refine wpAny_bind ?_;unfold Builtin.SmallTypes.ownedTupleHandOut
 have z6:IsZip (g5.push { cls:= .type "tuple",data:= .seq #[x,y] }) z TI TO .ellipsis:=Heap.get?_push_of_some _ z5
 refine wpAny_bind (wpAny_setField_rec z6 (by simp) fun g7 z7 s7=> ?_)
 replace z7:IsZip g7 z TI TO (rawInt g5.objs.size):=z7
 refine wpAny_setField_rec z7 (by simp) fun g8 z8 s8=> ?_
 replace z8:IsZip g8 z TI TO (rawInt g5.objs.size):=z8
 have up: ∀ c o,c≠z→g5.get? c=some o→g8.get? c=some o:=fun c o c1 e=>(s8.2 _ c1).trans ((s7.2 _ c1).trans (Heap.get?_push_of_some _ e))
 have t8:IsPair g8 g5.objs.size x y:=(s8.2 _ (Nat.ne_of_gt lz)).trans ((s7.2 _ (Nat.ne_of_gt lz)).trans (Heap.get?_push_size _ rfl))
 have n8:g8.objs.size=g5.objs.size+1:=by rw [s8.1,s7.1,Heap.size_push]
 rw [hsz] at z8 t8 n8
 refine wpAny_pure ⟨_,rfl,wpAny_pure ?_⟩
 show Q (some (.ref g5.objs.size)) _;rw [hsz]
 refine hQ g8 z8 (up _ _ D.TOz o5) ?_ ?_ t8 n8 fun c o c1 c2 c3 c4 e=>up c o c1 (k5 c o c1 c2 c3 c4 e)
 ·exact aT q1 fun o e=>up _ o D.i1z e
 ·exact aT q2 fun o e=>up _ o D.i2z e
theorem tK {z TI TO i1 i2 l1 l2:Addr} {k1 k2:Nat} {xs ys:Array Value} {a b:Value} {Q:Option Value→Shared→Prop} (hh:A.handled=none) (D:ZipApart z TI TO i1 i2 l1 l2) (hz:IsZip s.heap z TI TO .none) (hTI:IsPair s.heap TI (.ref i1) (.ref i2)) (hTO:IsPair s.heap TO a b)
  (h1:ItA t s.heap i1 l1 k1) (h2:ItA t2 s.heap i2 l2 k2) (hl1:SeA t s.heap l1 xs) (hl2:SeA t2 s.heap l2 ys) (he:xs[k1]? =none∨ys[k2]? =none)
  (hQ: ∀ h',(∀ c o,c≠z→c≠TO→c≠i1→c≠i2→s.heap.get? c=some o→h'.get? c=some o)→Q none { s with heap:=h' }):wpAny (model prog w) A (pyNext (.ref z)) Q Ex s:=by
 have hT:s.TypeIs (.ref z) "zip":=⟨_,hz,rfl⟩
 have isT: ∀ {t:Bool} {h h':Heap} {it l:Addr} {k:Nat} {c:Addr},ItA t h it l k→Heap.SameBut c h h'→it≠c→ItA t h' it l k:=fun q sb ne=>aT q fun o e=>(sb.2 _ ne).trans e
 have isU: ∀ {t:Bool} {h h':Heap} {l:Addr} {it:Array Value} {c:Addr},SeA t h l it→Heap.SameBut c h h'→l≠c→SeA t h' l it:=fun q sb ne=>pR q fun o e=>(sb.2 _ ne).trans e
 unfold pyNext
 have fin: ∀ (h':Heap) (e:Addr),(∀ c o,c≠z→c≠TO→c≠i1→c≠i2→s.heap.get? c=some o→h'.get? c=some o)→(∃ o,h'.get? e=some o∧o.cls= .type "StopIteration")→wpAny (model prog w) A (do if(←isInstance (.ref e) (.type "StopIteration"))=true then pure none else throw (.ref e)) Q Ex { s with heap:=h' }:=fun h' e kk he=>by
  obtain⟨o,ho,hc⟩:=he
  exact wpAny_bind (wpAny_isInstance (T:="StopIteration") (b:=true) ⟨o,ho,hc⟩ isSubtype_stop (wpAny_pure (hQ _ kk)))
 refine wpAny_bind (wpAny_attempt (wpAny_callSpecial?_slot (name:=Str.ofString "__next__") hT F.slot_zip_next (wpAny_call_entry F.slot_zip_next hT F.entry_zip_next ?_ (F.args_zip_next_1 _))))
 show wpAny _ _ (field (.ref z) 2 >>= _) _ _ _
 refine wpAny_bind (wpAny_field hz rfl (x:= .bool false) rfl ?_)
 show wpAny _ _ (field (.ref z) 3 >>= _) _ _ _
 refine wpAny_bind (wpAny_field hz rfl (x:= .ref TI) rfl (wpAny_bind (wpAny_seqItems hTI rfl ?_)))
 show wpAny _ _ (Builtin.SmallTypes.ownedTupleIsFree (.ref z) >>= _) _ _ _
 refine wpAny_bind ?_;unfold Builtin.SmallTypes.ownedTupleIsFree
 refine wpAny_bind (wpAny_field hz rfl (x:= .none) rfl (wpAny_pure ?_));simp only [if_true]
 refine wpAny_bind (wpAny_rule (wpAny_bind (wpAny_field hz rfl (x:= .ref TO) rfl (wpAny_bind (wpAny_setField_rec hz (by simp) fun g1 z1 s1=> ?_)))))
 replace z1:IsZip g1 z TI TO .ellipsis:=z1
 refine wpAny_bind ?_;simp only [List.zipIdx_cons,List.zipIdx_nil,List.forIn_cons,List.forIn_nil]
 refine wpAny_bind (wpAny_bind (wpAny_onRaise ?_));show wpAny _ _ (Builtin.SmallTypes.nextOf (.ref i1) >>= _) _ _ _
 cases hx:xs[k1]? with
 | none=>
  refine wpAny_bind (eS hh (isT h1 s1 D.i1z) (isU hl1 s1 D.l1z) hx fun g2 e s2 he=> ?_)
  obtain⟨oe,q1,q2⟩:=he
  have z2:IsZip g2 z TI TO .ellipsis:=s2 _ _ D.i1z.symm z1
  have ez:e≠z:=fun x=>by subst x;rw [z2] at q1;cases q1;simp at q2
  exact wpAny_setField_rec z2 (by simp) fun g3 _ s3=>fin g3 e (fun c o c1 _ c3 _ x=>(s3.2 _ c1).trans (s2 _ _ c3 ((s1.2 _ c1).trans x))) ⟨oe,(s3.2 _ ez).trans q1,q2⟩
 | some x=>
  have hy:ys[k2]? =none:=he.resolve_left fun h=>by rw [hx] at h;cases h
  refine wpAny_bind (cL (isT h1 s1 D.i1z) (isU hl1 s1 D.l1z) hx fun g2 p2 s2=>wpAny_pure ?_)
  have o2:IsPair g2 TO a b:=(s2.2 _ D.TOi1).trans ((s1.2 _ D.TOz).trans hTO)
  refine wpAny_bind (wpAny_seqItems o2 rfl (wpAny_bind (wpAny_updateSeq_pair o2 fun g3 o3 s3=> ?_)))
  refine wpAny_bind (wpAny_letGo (wpAny_pure (wpAny_bind (wpAny_bind (wpAny_onRaise ?_)))));show wpAny _ _ (Builtin.SmallTypes.nextOf (.ref i2) >>= _) _ _ _
  refine wpAny_bind (eS hh (isT (isT (isT h2 s1 D.i2z) s2 D.i12.symm) s3 D.TOi2.symm) (isU (isU (isU hl2 s1 D.l2z) s2 D.l2i1) s3 D.l2TO) hy fun g4 e s4 he=> ?_)
  obtain⟨oe,q1,q2⟩:=he
  have z4:IsZip g4 z TI TO .ellipsis:=s4 _ _ D.i2z.symm ((s3.2 _ D.TOz.symm).trans ((s2.2 _ D.i1z.symm).trans z1))
  have ez:e≠z:=fun x=>by subst x;rw [z4] at q1;cases q1;simp at q2
  exact wpAny_setField_rec z4 (by simp) fun g5 _ s5=>fin g5 e (fun c o c1 c2 c3 c4 x=>(s5.2 _ c1).trans (s4 _ _ c4 ((s3.2 _ c2).trans ((s2.2 _ c3).trans ((s1.2 _ c1).trans x))))) ⟨oe,(s5.2 _ ez).trans q1,q2⟩
end
noncomputable def itC (t:Bool):String:=if t then "tuple_iterator" else "list_iterator"
noncomputable abbrev zg1 (t:Bool) (h:Heap) (l:Addr):Heap:=h.push { cls:= .type (itC t),data:= .fields #[.ref l, .int 0 0] }
noncomputable abbrev zg3 (t t2:Bool) (h:Heap) (l m:Addr):Heap:=(zg1 t2 (zg1 t h l) m).push { cls:= .type "tuple",data:= .seq #[.ref h.objs.size, .ref (zg1 t h l).objs.size] }
noncomputable abbrev zg4 (t t2:Bool) (h:Heap) (l m:Addr):Heap:=(zg3 t t2 h l m).push { cls:= .type "tuple",data:= .seq #[.none, .none] }
noncomputable abbrev zg5 (t t2:Bool) (h:Heap) (l m:Addr):Heap:=(zg4 t t2 h l m).push { cls:= .type "zip",data:= .fields #[.none, .bool false, .bool false, .ref (zg1 t2 (zg1 t h l) m).objs.size, .ref (zg3 t t2 h l m).objs.size] }
theorem tM (t t2:Bool) (l m:Addr) (xs ys:Array Value):Meets (Builtin.«zip.__new__» ⟨[.type "zip", .ref l, .ref m],[]⟩) (fun _ R s=>SeA t s.heap l xs∧SeA t2 s.heap m ys∧R (.ok (.ret (.ref (zg4 t t2 s.heap l m).objs.size))) { s with heap:=zg5 t t2 s.heap l m }):=
 .of_wp fun prog w A R s h=>by
  obtain⟨hp,g,d,tk,os⟩:=s
  obtain⟨t1,t2',h⟩:=h
  have hsub:=sub_zip
  cases t with
  | true=>
   have q1:Heap.IsTuple (Shared.heap ⟨hp,g,d,tk,os⟩) l xs:=t1
   cases t2 with
   | true=>
    have q2:Heap.IsTuple (Shared.heap ⟨hp.push { cls:= .type "tuple_iterator",data:= .fields #[.ref l, .int 0 0] },g,d,tk,os⟩) m ys:=Heap.IsTuple.push t2' _
    wp_walk using wpAny_pyIter_tuple q1,wpAny_pyIter_tuple q2
    exact⟨_,rfl,h⟩
   | false=>
    have q2:Heap.IsList (Shared.heap ⟨hp.push { cls:= .type "tuple_iterator",data:= .fields #[.ref l, .int 0 0] },g,d,tk,os⟩) m ys:=Heap.IsList.push t2' _
    wp_walk using wpAny_pyIter_tuple q1,wpAny_pyIter_list q2
    exact⟨_,rfl,h⟩
  | false=>
   have q1:Heap.IsList (Shared.heap ⟨hp,g,d,tk,os⟩) l xs:=t1
   cases t2 with
   | true=>
    have q2:Heap.IsTuple (Shared.heap ⟨hp.push { cls:= .type "list_iterator",data:= .fields #[.ref l, .int 0 0] },g,d,tk,os⟩) m ys:=Heap.IsTuple.push t2' _
    wp_walk using wpAny_pyIter_list q1,wpAny_pyIter_tuple q2
    exact⟨_,rfl,h⟩
   | false=>
    have q2:Heap.IsList (Shared.heap ⟨hp.push { cls:= .type "list_iterator",data:= .fields #[.ref l, .int 0 0] },g,d,tk,os⟩) m ys:=Heap.IsList.push t2' _
    wp_walk using wpAny_pyIter_list q1,wpAny_pyIter_list q2
    exact⟨_,rfl,h⟩
section
variable {prog:Program} {w:World} {A:Around} {Ex:Value→Shared→Prop} {s:Shared} {t t2:Bool}
theorem pT {t:Bool} {h:Heap} {it l:Addr} (e:h.get? it=some { cls:= .type (itC t),data:= .fields #[.ref l, .int 0 0] }):ItA t h it l 0:=by
 cases t with
 | true=>exact⟨_,e,rfl,rfl⟩
 | false=>exact⟨_,e,rfl,rfl⟩
theorem pU {l m:Addr} {xs ys:Array Value} {Q:Value→Shared→Prop} (t1:SeA t s.heap l xs) (t2':SeA t2 s.heap m ys)
  (h: ∀ h',IsZip h' (s.heap.objs.size+4) (s.heap.objs.size+2) (s.heap.objs.size+3) .none→IsPair h' (s.heap.objs.size+2) (.ref s.heap.objs.size) (.ref (s.heap.objs.size+1))→IsPair h' (s.heap.objs.size+3) .none .none→
   ItA t h' s.heap.objs.size l 0→ItA t2 h' (s.heap.objs.size+1) m 0→h'.objs.size=s.heap.objs.size+5→(∀ c o,s.heap.get? c=some o→h'.get? c=some o)→Q (.ref (s.heap.objs.size+4)) { s with heap:=h' }):
  wpAny (model prog w) A (call (.type "zip") [.ref l, .ref m]) Q Ex s:=by
 refine callType_new F.called_zip (by decide) (F.typeCall_zip_2 _ _) (F.newCall_zip_2 _ _) (fun obj=>F.args_object_init_3 obj _ _) F.entry_zip_new (tM t t2 l m xs ys) ⟨t1,t2', ?_⟩
 have n1:(zg1 t s.heap l).objs.size=s.heap.objs.size+1:=Heap.size_push ..
 have n2:(zg1 t2 (zg1 t s.heap l) m).objs.size=s.heap.objs.size+2:=by rw [Heap.size_push,n1]
 have n3:(zg3 t t2 s.heap l m).objs.size=s.heap.objs.size+3:=by rw [Heap.size_push,n2]
 have n4:(zg4 t t2 s.heap l m).objs.size=s.heap.objs.size+4:=by rw [Heap.size_push,n3]
 have n5:(zg5 t t2 s.heap l m).objs.size=s.heap.objs.size+5:=by rw [Heap.size_push,n4]
 have up: ∀ {h:Heap} {o:Obj} {c:Addr} {x:Obj},h.get? c=some x→(h.push o).get? c=some x:=fun e=>Heap.get?_push_of_some _ e
 have g5:(zg5 t t2 s.heap l m).get? (zg4 t t2 s.heap l m).objs.size=some _:=Heap.get?_push_size _ rfl
 have g4:(zg5 t t2 s.heap l m).get? (zg3 t t2 s.heap l m).objs.size=some _:=up (Heap.get?_push_size _ rfl)
 have g3:(zg5 t t2 s.heap l m).get? (zg1 t2 (zg1 t s.heap l) m).objs.size=some _:=up (up (Heap.get?_push_size _ rfl))
 have g2:(zg5 t t2 s.heap l m).get? (zg1 t s.heap l).objs.size=some _:=up (up (up (Heap.get?_push_size _ rfl)))
 have g1:(zg5 t t2 s.heap l m).get? s.heap.objs.size=some _:=up (up (up (up (Heap.get?_push_size _ rfl))))
 show _∧_
 rw [n2,n3,n4] at g5;rw [n1,n2] at g3;rw [n3] at g4;rw [n1] at g2;rw [n4]
 exact⟨⟨_,g5,rfl⟩,h _ g5 g3 g4 (pT g1) (pT g2) n5 fun c o x=>up (up (up (up (up x))))⟩
end
noncomputable def Itz2 (t t2:Bool) (K:PySem.W.Frag) (l m:Addr):It:=
 ⟨fun i H=> ∃ xs ys x y,SqA t K H l xs∧SqA t2 K H m ys∧xs[i]? =some x∧ys[i]? =some y,
  fun i H v H'=> ∃ p x y,H p=none∧v= .ref p∧(∀ xs,SqA t K H l xs→xs[i]? =some x)∧(∀ ys,SqA t2 K H m ys→ys[i]? =some y)∧H'=upd H p (.tup [x,y]),
  fun i H=> ∃ xs ys,SqA t K H l xs∧SqA t2 K H m ys∧(xs.length≤i∨ys.length≤i)⟩
theorem pV {t t2:Bool} {P:Program} {w:World} {K:PySem.W.Frag} {es:List Expr} {x1} {tp:Pos} {z TI TO i1 i2 l m:Addr} (D:ZipApart z TI TO i1 i2 l m):
  Turn P w K (.Tuple es x1 tp) (Itz2 t t2 K l m) [z,TI,TO,i1,i2] z (fun i h=>IsZip h z TI TO .none∧IsPair h TI (.ref i1) (.ref i2)∧(∃ a b,IsPair h TO a b)∧ItA t h i1 l i∧ItA t2 h i2 m i) where
 mem:=by simp
 obj:=fun i h st b hb=>by
  obtain⟨z1,z2,⟨a,c,z3⟩,y4,y5⟩:=st
  obtain⟨o4,z4,d4⟩:=gO y4
  obtain⟨o5,z5,d5⟩:=gO y5
  simp only [List.mem_cons,List.not_mem_nil,or_false] at hb
  rcases hb with rfl | rfl | rfl | rfl | rfl
  ·exact⟨_,z1,fun v e=>by cases e⟩
  ·exact⟨_,z2,fun v e=>by cases e⟩
  ·exact⟨_,z3,fun v e=>by cases e⟩
  ·exact⟨_,z4,fun v e=>by rw [d4] at e;cases e⟩
  ·exact⟨_,z5,fun v e=>by rw [d5] at e;cases e⟩
 keep:=fun i h h' st k=>by
  obtain⟨z1,z2,⟨a,c,z3⟩,y4,y5⟩:=st
  exact⟨k _ (by simp) _ z1,k _ (by simp) _ z2,⟨a,c,k _ (by simp) _ z3⟩,aT y4 fun o e=>k _ (by simp) o e,aT y5 fun o e=>k _ (by simp) o e⟩
 item:=by
  intro X hP hw hK hc i pins s σ H E I hf st hg
  subst hP hw hK
  obtain⟨xs,ys,x,y,q1,q2,hx,hy⟩:=hg
  obtain⟨us,r1,p1,_⟩:=bW I q1
  obtain⟨vs,r2,p2,_⟩:=bW I q2
  obtain⟨u,hu,ru⟩:=r1.get hx
  obtain⟨v,hv,rv⟩:=r2.get hy
  obtain⟨z1,z2,⟨a,c,z3⟩,z4,z5⟩:=st
  have tI:TI<s.heap.objs.size:=Heap.lt_size z2
  have tz:z<s.heap.objs.size:=Heap.lt_size z1
  have tO:TO<s.heap.objs.size:=Heap.lt_size z3
  have t4:i1<s.heap.objs.size:=by obtain⟨o,e,_⟩:=gO z4;exact Heap.lt_size e
  have t5:i2<s.heap.objs.size:=by obtain⟨o,e,_⟩:=gO z5;exact Heap.lt_size e
  refine pS D z1 z2 z3 z4 z5 p1 p2 (x:=u) (y:=v) (by simpa using hu) (by simpa using hv) fun h' a1 a2 a3 a4 a5 a6 a7=>⟨_,rfl, ?_⟩
  have hfr:H s.heap.objs.size=none:=I.hok.fresh (Nat.le_refl _)
  -- the pair, laid
  have Ia:Inv X pins σ (upd H s.heap.objs.size (.tup [x,y])) { s with heap:=s.heap.push { cls:= .type "tuple",data:= .seq #[u,v] } }:=
   I.laid (t':=s.toks) (fun b o e=>Heap.get?_push_of_some _ e) (Nat.le_refl _) (show ObjOk X.prog X.w _ _ _ (.tup [x,y]) from⟨by rw [sizeLine_eq];simp,[u,v], .cons ru (.cons rv .nil),⟨_,Heap.get?_push_size _ rfl,rfl,_,rfl⟩,⟨_,Heap.get?_push_size _ rfl,rfl⟩⟩)
  have hne: ∀ b∈[z,TI,TO,i1,i2],b≠s.heap.objs.size:=fun b hb=>by
   simp only [List.mem_cons,List.not_mem_nil,or_false] at hb
   rcases hb with rfl | rfl | rfl | rfl | rfl
   ·exact Nat.ne_of_lt tz
   ·exact Nat.ne_of_lt tI
   ·exact Nat.ne_of_lt tO
   ·exact Nat.ne_of_lt t4
   ·exact Nat.ne_of_lt t5
  have hf2: ∀ b∈[z,TI,TO,i1,i2],FpOk X pins (upd H s.heap.objs.size (.tup [x,y])) b:=fun b hb=>⟨by rw [aF (hne b hb)];exact(hf b hb).1,(hf b hb).2⟩
  have Ib:Inv X pins σ (upd H s.heap.objs.size (.tup [x,y])) { s with heap:=h' }:=by
   refine bQ (s:={ s with heap:=s.heap.push { cls:= .type "tuple",data:= .seq #[u,v] } }) (t':=s.toks) Ia (fun b o hb e=> ?_) hf2
   simp only [List.mem_cons,List.not_mem_nil,or_false,not_or] at hb
   by_cases hq:b=s.heap.objs.size
   ·subst hq
    rw [show(s.heap.push { cls:= .type "tuple",data:= .seq #[u,v] }).get? s.heap.objs.size=some _ from Heap.get?_push_size _ rfl] at e
    cases e
    exact a5
   ·have e2:s.heap.get? b=some o:=by
     exact(Heap.get?_push_ne _ b _ hq).symm.trans e
    exact a7 b o hb.1 hb.2.2.1 hb.2.2.2.1 hb.2.2.2.2 e2
  refine wpAny_letOwnedTupleGo_zip a1 fun h2 b1 b2=> ?_
  have Ic:Inv X pins σ (upd H s.heap.objs.size (.tup [x,y])) { s with heap:=h2 }:=bQ (s:={ s with heap:=h' }) (t':=s.toks) Ib (fun b o hb e=>(b2.2 b (fun q=>hb (by simp [q]))).trans e) hf2
  refine⟨.ref s.heap.objs.size,_,Ic,rfl,⟨_,x,y,hfr,rfl,fun xs' hx'=>by rw [cV I hx' q1];exact hx,fun ys' hy'=>by rw [cV I hy' q2];exact hy,rfl⟩,⟨b1, ?_,⟨u,v, ?_⟩, ?_, ?_⟩,fun b hb=>(hf2 b hb).1⟩
  ·exact(b2.2 _ D.TIz).trans (a7 _ _ D.TIz D.TITO D.TIi1 D.TIi2 z2)
  ·exact(b2.2 _ D.TOz).trans a2
  ·exact aT a3 fun o e=>(b2.2 _ D.i1z).trans e
  ·exact aT a4 fun o e=>(b2.2 _ D.i2z).trans e
 done:=by
  intro X hP hw hK hc i pins s σ H E I hf st hg
  subst hP hw hK
  obtain⟨xs,ys,q1,q2,hx⟩:=hg
  obtain⟨us,r1,p1,_⟩:=bW I q1
  obtain⟨vs,r2,p2,_⟩:=bW I q2
  obtain⟨z1,z2,⟨a,c,z3⟩,z4,z5⟩:=st
  have n1:=r1.length
  have n2:=r2.length
  refine tK (I.ok.hd hc) D z1 z2 z3 z4 z5 p1 p2 (hx.elim (fun h=> .inl (by simp;omega)) fun h=> .inr (by simp;omega)) fun h' k=>⟨rfl,bQ (t':=s.toks) I (fun b o hb e=> ?_) hf⟩
  simp only [List.mem_cons,List.not_mem_nil,or_false,not_or] at hb
  exact k b o hb.1 hb.2.2.1 hb.2.2.2.1 hb.2.2.2.2 e
 self:=fun _ _ _ _ _ st h=>wpAny_pyIter_zip st.1 h
section
variable {X:Cx} {ad:Ad} {pins:List (Addr×Obj)} {s:Shared} {σ:St} {H G:Hp} {ρ:Rho} {Q:VK} {E:Nat→Hp→Prop} {pos p ap cp:Pos} {o a b c tg:Expr} {f g h:F}
theorem pW {G1 H1:Hp} {x:V} {ds:List D} (e:Same G1 H1) (q:Seq X ad G1 H1 (.lst ds) x): ∃ l xs,x= .ref l∧SqL X.K H1 l xs∧Reps X.K ad G1 ds xs:=by
 rcases q with q | ⟨l,vs,ds',e1,e2,e3,e4,e5⟩
 ·unfold Rep at q
  obtain⟨l,vs,rfl,h1,h2⟩:=q
  exact⟨l,vs,rfl,e.seq h1,h2⟩
 ·cases e1
  exact⟨l,vs,e2,SqL.of e4,e5⟩
theorem pX {m:Str} {id:String} {r:Fn} (slot:PySem.Slot "list" m id) (hty:typeOf (.builtin id)=pure (.type "method_descriptor"))
  (ho:ML X ad o f) (ha:ME X ad a g) (hs:starEach [a] X.env=(false,eval a X.env)::starEach [] X.env) (hbase:attributeBase o m X.env (eval o X.env)=eval o X.env) (hline:(ap.endLine==cp.line)=true)
  (hm: ∀ (pins:List (Addr×Obj)) (s:Shared) (σ:St) (H G:Hp) (l:Addr) (xs:List V) (ds:List D) (y:D) (v:V) (u:Value) (Q:VK) (E:Nat→Hp→Prop),Inv X pins σ H s→Same G H→SqL X.K H l xs→Reps X.K ad G ds xs→Rep X.K ad G y v→RelV v u→
   RK X.K ad G H (r [.lst ds,y]) Q E→wpAny (model X.prog X.w) X.A (call (.builtin id) [.ref l,u]) (EP X pins σ Q) X.xe s):ME X ad (.Call (.Attribute o m ap) [a] [] cp) (rMeth r f g):=by
 intro pins s σ H Q I ⟨G,ρ,E,hG,hS,hx,hr⟩
 refine wpAny_Call_method_late hbase (cI hs) hline rfl (L2.thn (ho.lk pins s σ H G ρ _ Q E I hG hS hx hr) fun v s1 hz_=> ?_)
 obtain⟨x,d,G1,H1,I1,r1,st1,q1,k1⟩:=hz_
 cases d<;>try exact False.elim k1
 rename_i ds
 obtain⟨l,xs,rfl,hq,rq⟩:=pW st1.gh q1
 cases (show v=Value.ref l from r1)
 obtain⟨its,rv,pl,_⟩:=I1.list hq
 obtain⟨ob,n,e1,e2,e3,e4⟩:=pl
 refine⟨"list",id,PySem.F.plainAttrs_list,slot,hty,⟨ob,e1,e2⟩,fun a' ea=>by cases ea;exact⟨ob,e1,e3⟩, ?_⟩
 rw [hs]
 refine Calls.callWith_builtin rfl (Calls.evalArgs_plain (Calls.spliced_cons (L2.thn (ha.thn I1 st1.gh (hS.step st1) hx k1) fun u s2 ⟨w,y,G2,H2,I2,r2,st2,q2,k2⟩=>Calls.spliced_nil ?_)))
 exact hm pins s2 σ H2 G2 l xs ds y w u Q E I2 st2.gh (st2.sh.seq hq) (rq.mono st2.sg) q2 r2 k2
theorem tN (hu:X.A.units+62<cLine) (ho:ML X ad o f) (ha:ME X ad a g) (hs:starEach [a] X.env=(false,eval a X.env)::starEach [] X.env) (hbase:attributeBase o "count" X.env (eval o X.env)=eval o X.env) (hline:(ap.endLine==cp.line)=true):
  ME X ad (.Call (.Attribute o "count" ap) [a] [] cp) (rMeth dCount f g):=by
 refine pX PySem.F.slot_list_count PySem.F.type_list_count ho ha hs hbase hline ?_
 intro pins s σ H G l xs ds y v u Q E I hG hq rq q r k
 have k':RK X.K ad G H (if inOk y ds then .ok (.int ((ds.countP fun z=>deq z y):Nat)) else .bad) Q E:=k
 by_cases hc:inOk y ds=true
 ·rw [if_pos hc] at k'
  obtain⟨its,rv,⟨⟨cls,dd,data,sl⟩,n,e1,e2,e3,e4⟩,_⟩:=I.list hq
  simp only at e2 e3 e4
  subst e2 e4
  obtain⟨e,he,_,hcount,_⟩:=dA hu I hG hc q r rq rv
  refine call_meets PySem.F.slot_list_count ⟨_,e1,rfl⟩ PySem.F.entry_list_count (PySem.F.args_list_count_2 _ _) (SeqAt.list_countAt l its.toArray n dd sl u e) ⟨e1,he, ?_⟩
  refine⟨.int _,H,I.tok _,⟨_,rfl⟩, ?_⟩
  rw [←hcount] at k'
  exact k'.ok_now hG aD
 ·rw [if_neg hc] at k'
  exact k'.elim
theorem tP (hu:X.A.units+62<cLine) (ho:ML X ad o f) (ha:ME X ad a g) (hs:starEach [a] X.env=(false,eval a X.env)::starEach [] X.env) (hbase:attributeBase o "index" X.env (eval o X.env)=eval o X.env) (hline:(ap.endLine==cp.line)=true):
  ME X ad (.Call (.Attribute o "index" ap) [a] [] cp) (rMeth dIndex f g):=by
 refine pX PySem.F.slot_list_index PySem.F.type_list_index ho ha hs hbase hline ?_
 intro pins s σ H G l xs ds y v u Q E I hG hq rq q r k
 have k':RK X.K ad G H (if inOk y ds then(match ds.findIdx? fun z=>deq z y with | some k=> .ok (.int (k:Nat)) | none=> .bad) else .bad) Q E:=k
 by_cases hc:inOk y ds=true
 ·rw [if_pos hc] at k'
  obtain⟨its,rv,⟨⟨cls,dd,data,sl⟩,n,e1,e2,e3,e4⟩,hz⟩:=I.list hq
  simp only at e2 e3 e4
  subst e2 e4
  obtain⟨e,he,_,_,hfind⟩:=dA hu I hG hc q r rq rv
  cases hf:ds.findIdx? fun z=>deq z y with
  | none=>rw [hf] at k';exact k'.elim
  | some j=>
   rw [hf] at k' hfind
   obtain⟨hj,hit,hno⟩:=List.findIdx?_eq_some_iff_getElem.mp hfind
   have hl:=rv.length
   refine call_meets PySem.F.slot_list_index ⟨_,e1,rfl⟩ PySem.F.entry_list_index (PySem.F.args_list_index_2 _ _) (SeqAt.list_indexAt l its.toArray n dd sl u e j (by simpa using hj) ?_ (by simpa using hit) (fun m hm hlt=>by simpa using hno m hlt)) ⟨e1,he, ?_⟩
   ·have:(sizeLine:Nat)<2 ^ 63 - 1:=by decide
    omega
   ·exact⟨.int _,H,I.tok _,⟨_,rfl⟩,k'.ok_now hG aD⟩
 ·rw [if_neg hc] at k'
  exact k'.elim
theorem gP {f:F} {k:D→R} {W:It→Hp→Prop} {Q':VK} (hG:Same G H) (hS:SL X.K ad G H ρ σ) (hx:XP X ad σ E) (hr:IGK X ad G H ((f ρ).bind k) W E)
  (q: ∀ v d G1 H1,Step G H G1 H1→Rep X.K ad G1 d v→IGK X ad G1 H1 (k d) W E→Q' v H1):tE X ad f σ H Q':=by
 have ikst: ∀ {r:R} {G1 H1:Hp},IGK X ad G H r W E→Step G H G1 H1→IGK X ad G1 H1 r W E:=fun {r G1 H1} h st=>by
  cases r with
  | ok d=>obtain⟨ds,e,h⟩:=h;exact⟨ds,e,fun J G' H' st' hi=>h J G' H' (st.trans st') hi⟩
  | ow l=>exact fun J G' H' st' hi=>h J G' H' (st.trans st') hi
  | ex c=>exact fun G' H' st'=>h G' H' (st.trans st')
  | bad=>exact h
 refine⟨G,ρ,E,hG,hS,hx, ?_⟩
 cases e:f ρ with
 | ok d=>
  rw [e] at hr
  exact fun v G1 H1 st r=>q v d G1 H1 st r (ikst hr st)
 | ow xs=>
  rw [e] at hr
  intro p vs G1 H1 st n m e' r
  obtain⟨G2,st2,r2⟩:=aS (X:=X) (ad:=ad) st n m e' r
  exact q _ _ G2 H1 st2 r2 (ikst hr st2)
 | ex c=>
  rw [e] at hr
  exact hr
 | bad=>
  rw [e] at hr
  exact hr
noncomputable def iZp (K:PySem.W.Frag) (ta:TA):TI:=fun σ H R=>ta σ H fun vs H1=> ∃ t t2 l m xs ys,vs=[.ref l, .ref m]∧SqA t K H1 l xs∧SqA t2 K H1 m ys∧(xs.length≤sizeLine→R (Itz2 t t2 K l m) H1)
theorem vO {es:List Expr} {kt} {tp:Pos} {ta:TA} (hg:L2.Gl X "zip") (hm:X.mg "zip"=none) (ha:PA X [a,b] ta) (he:starEach [a,b] X.env=(false,eval a X.env)::starEach [b] X.env) (he2:starEach [b] X.env=(false,eval b X.env)::starEach [] X.env):
  PI X (.Tuple es kt tp) (.Call (.Name "zip" p) [a,b] [] pos) (iZp X.K ta):=by
 intro pins s σ H R I h
 refine Call_ (bM (u:= .type "zip") I hg hm (by decide+kernel) (PyProof.Rows.callWith_type1 (L2.thn (ha pos pins s σ H _ I h) fun us s1 ⟨vs,H1,I1,r1,q1⟩=> ?_) he (by rw [he2];rfl)) (by decide) (by decide))
 obtain⟨t,t2,l,m,xs,ys,rfl,hq1,hq2,q⟩:=q1
 obtain⟨u,v,rfl,ru,rv⟩:=r1.two
 cases (show u=Value.ref l from ru)
 cases (show v=Value.ref m from rv)
 obtain⟨its,_,p1,z1⟩:=bW I1 hq1
 obtain⟨its2,_,p2,_⟩:=bW I1 hq2
 refine pU p1 p2 fun h' a1 a2 a3 a4 a5 a6 a7=>wpAny_pyIter_zip a1 ?_
 have l1:l<s1.heap.objs.size:=by cases t<;>(obtain⟨o,e,_⟩:=p1;exact Heap.lt_size e)
 have l2:m<s1.heap.objs.size:=by cases t2<;>(obtain⟨o,e,_⟩:=p2;exact Heap.lt_size e)
 refine⟨s1.heap.objs.size+4,[s1.heap.objs.size+4,s1.heap.objs.size+2,s1.heap.objs.size+3,s1.heap.objs.size,s1.heap.objs.size+1],_,Itz2 t t2 X.K l m,H1,rfl,I1.kept (t':=s1.toks) a7,pV (pL l1 l2),⟨a1,a2,⟨_,_,a3⟩,a4,a5⟩,fun b hb=> ?_,q z1⟩
 have hb':s1.heap.objs.size≤b:=by
  simp only [List.mem_cons,List.not_mem_nil,or_false] at hb
  rcases hb with rfl | rfl | rfl | rfl | rfl
  ·exact Nat.le_add_right _ 4
  ·exact Nat.le_add_right _ 2
  ·exact Nat.le_add_right _ 3
  ·exact Nat.le_refl _
  ·exact Nat.le_add_right _ 1
 exact I1.fpOk hb' (I1.hok.fresh hb')
theorem x6 {ds es:List D} {i:Nat} {d:D} (e:((ds.zip es).map fun p=>D.tup [p.1,p.2])[i]? =some d): ∃ x y,ds[i]? =some x∧es[i]? =some y∧d= .tup [x,y]:=by
 rw [List.getElem?_map] at e
 cases q:(ds.zip es)[i]? with
 | none=>rw [q] at e;cases e
 | some p=>
  rw [q] at e
  rw [List.getElem?_zip_eq_some] at q
  exact⟨p.1,p.2,q.1,q.2,(Option.some.inj e).symm⟩
noncomputable def isA:Bool→List D→D→Prop
 | true,ds,d=>d= .tup ds
 | false,ds,d=>d= .lst ds
theorem gQ {t:Bool} {G1:Hp} {d:D} {v:V} {ds:List D} (c:isA t ds d) (r:Rep X.K ad G1 d v): ∃ l vs,v= .ref l∧SqA t X.K G1 l vs∧Reps X.K ad G1 ds vs:=by
 cases t with
 | true=>cases c;unfold Rep at r;exact r
 | false=>cases c;unfold Rep at r;exact r
theorem lW {t t2:Bool} {G1 H1 H2:Hp} {l m:Addr} {i:Nat} {vs ws:List V} {ds es:List D} {d:D} {x:V} (h1:SqA t X.K G1 l vs) (r1:Reps X.K ad G1 ds vs) (h2:SqA t2 X.K G1 m ws) (r2:Reps X.K ad G1 es ws) (hg:Same G1 H1) (e:((ds.zip es).map fun p=>D.tup [p.1,p.2])[i]? =some d):
  (Itz2 t t2 X.K l m).go i H1∧ ∀ x H2,(Itz2 t t2 X.K l m).yld i H1 x H2→ ∃ G2,Step G1 H1 G2 H2∧Rep X.K ad G2 d x:=by
 obtain⟨x,y,e1,e2,rfl⟩:=x6 e
 obtain⟨v,g1,q1⟩:=r1.get e1
 obtain⟨w,g2,q2⟩:=r2.get e2
 refine⟨⟨vs,ws,v,w,aA hg h1,aA hg h2,g1,g2⟩, ?_⟩
 rintro x' H2' ⟨p,x2,y2,hn,rfl,b1,b2,rfl⟩
 have c1:=b1 vs (aA hg h1);rw [g1] at c1;cases c1
 have c2:=b2 ws (aA hg h2);rw [g2] at c2;cases c2
 refine⟨upd G1 p (.tup [v,w]),Step.new hg hn, ?_⟩
 have sm:Same G1 (upd G1 p (.tup [v,w])):=Same.upd_new (hg.free hn)
 unfold Rep
 exact⟨p,[v,w],rfl,SqT.of aH,Reps.cons (q1.mono sm) (Reps.cons (q2.mono sm) Reps.nil)⟩
theorem lX {t t2:Bool} {G1 H1:Hp} {l m:Addr} {vs ws:List V} {ds es:List D} (h1:SqA t X.K H1 l vs) (n1:vs.length=ds.length) (h2:SqA t2 X.K H1 m ws) (n2:ws.length=es.length):(Itz2 t t2 X.K l m).stop ((ds.zip es).map fun p=>D.tup [p.1,p.2]).length H1:=by
 refine⟨vs,ws,h1,h2, ?_⟩
 simp only [List.length_map,List.length_zip]
 omega
theorem aBm {es:List Expr} {kt} {tp:Pos} (hg:L2.Gl X "zip") (hm:X.mg "zip"=none) (ha:ME X ad a f) (hb:ME X ad b g) (he:starEach [a,b] X.env=(false,eval a X.env)::starEach [b] X.env) (he2:starEach [b] X.env=(false,eval b X.env)::starEach [] X.env):
  MI X ad (.Tuple es kt tp) (.Call (.Name "zip" p) [a,b] [] pos) (iZip f g):=by
 intro pins s σ H W I ⟨G,ρ,E,hG,hS,hx,hr⟩
 refine vO (ta:=tCons (tE X ad f) (tCons (tE X ad g) tNil)) hg hm (aR ha (aR hb bN he2) he) he he2 pins s σ H W I ?_
 show tE X ad f σ H fun v H1=>tE X ad g σ H1 fun v2 H2=> ∃ t t2 l m xs ys,[v,v2]=[.ref l, .ref m]∧SqA t X.K H2 l xs∧SqA t2 X.K H2 m ys∧(xs.length≤sizeLine→W (Itz2 t t2 X.K l m) H2)
 refine gN hG hS hx hr fun v d G1 H1 st r k=> ?_
 refine gN st.gh (hS.step st) hx k fun v2 d2 G2 H2 st2 r2 k2=> ?_
 obtain⟨t,t2,ds,es',c1,c2,k2⟩: ∃ t t2 ds es',isA t ds d∧isA t2 es' d2∧IK X ad G2 H2 (.ok (.lst ((ds.zip es').map fun p=>D.tup [p.1,p.2]))) W E:=by
  cases d<;>try exact False.elim k2
  ·cases d2<;>try exact False.elim k2
   ·exact⟨true,true,_,_,rfl,rfl,k2⟩
   ·exact⟨true,false,_,_,rfl,rfl,k2⟩
  ·cases d2<;>try exact False.elim k2
   ·exact⟨false,true,_,_,rfl,rfl,k2⟩
   ·exact⟨false,false,_,_,rfl,rfl,k2⟩
 obtain⟨al,e,hw⟩:=k2
 cases e
 obtain⟨l,vs,rfl,q1,y1⟩:=gQ c1 r
 obtain⟨m,ws,rfl,q2,y2⟩:=gQ c2 r2
 have q1':=aA st2.sg q1
 have y1':=y1.mono st2.sg
 refine⟨t,t2,l,m,vs,ws,rfl,aA st2.gh q1',aA st2.gh q2,fun few=>hw _ G2 H2 (Step.refl st2.gh) ⟨fun i G3 H3 d' s3 e=> ?_,fun G3 H3 s3=>lX (G1:=G3) (aA s3.sh (aA st2.gh q1')) y1'.length (aA s3.sh (aA st2.gh q2)) y2.length, ?_⟩⟩
 ·exact lW (H2:=H3) (x:= .ref l) (aA s3.sg q1') (y1'.mono s3.sg) (aA s3.sg q2) (y2.mono s3.sg) s3.gh e
 ·have:=y1'.length
  simp only [List.length_map,List.length_zip]
  omega
theorem x8 {es:List Expr} {kt} {tp:Pos} (hg:L2.Gl X "zip") (hm:X.mg "zip"=none) (ha:ME X ad a f) (hb:ME X ad b g) (he:starEach [a,b] X.env=(false,eval a X.env)::starEach [b] X.env) (he2:starEach [b] X.env=(false,eval b X.env)::starEach [] X.env):
  MIG X ad (.Tuple es kt tp) (.Call (.Name "zip" p) [a,b] [] pos) (iZip f g):=by
 intro pins s σ H W I ⟨G,ρ,E,hG,hS,hx,hr⟩
 refine vO (ta:=tCons (tE X ad f) (tCons (tE X ad g) tNil)) hg hm (aR ha (aR hb bN he2) he) he he2 pins s σ H W I ?_
 show tE X ad f σ H fun v H1=>tE X ad g σ H1 fun v2 H2=> ∃ t t2 l m xs ys,[v,v2]=[.ref l, .ref m]∧SqA t X.K H2 l xs∧SqA t2 X.K H2 m ys∧(xs.length≤sizeLine→W (Itz2 t t2 X.K l m) H2)
 refine gP hG hS hx hr fun v d G1 H1 st r k=> ?_
 refine gP st.gh (hS.step st) hx k fun v2 d2 G2 H2 st2 r2 k2=> ?_
 obtain⟨t,t2,ds,es',c1,c2,k2⟩: ∃ t t2 ds es',isA t ds d∧isA t2 es' d2∧IGK X ad G2 H2 (.ok (.lst ((ds.zip es').map fun p=>D.tup [p.1,p.2]))) W E:=by
  cases d<;>try exact False.elim k2
  ·cases d2<;>try exact False.elim k2
   ·exact⟨true,true,_,_,rfl,rfl,k2⟩
   ·exact⟨true,false,_,_,rfl,rfl,k2⟩
  ·cases d2<;>try exact False.elim k2
   ·exact⟨false,true,_,_,rfl,rfl,k2⟩
   ·exact⟨false,false,_,_,rfl,rfl,k2⟩
 obtain⟨al,e,hw⟩:=k2
 cases e
 obtain⟨l,vs,rfl,q1,y1⟩:=gQ c1 r
 obtain⟨m,ws,rfl,q2,y2⟩:=gQ c2 r2
 have q1':=aA st2.sg q1
 have y1':=y1.mono st2.sg
 refine⟨t,t2,l,m,vs,ws,rfl,aA st2.gh q1',aA st2.gh q2,fun few=>hw _ G2 H2 (Step.refl st2.gh) ⟨fun i G3 H3 d' s3 s4 e=> ?_,fun G3 H3 s3 s4=>lX (G1:=G3) (aA s4 (aA s3 q1')) y1'.length (aA s4 (aA s3 q2)) y2.length⟩⟩
 exact lW (H2:=H3) (x:= .ref l) (aA s3 q1') (y1'.mono s3) (aA s3 q2) (y2.mono s3) s4 e
noncomputable def iEn (K:PySem.W.Frag) (ta:TA):TI:=fun σ H R=>ta σ H fun vs H1=> ∃ t l xs,vs=[.ref l]∧SqA t K H1 l xs∧(xs.length≤sizeLine→R (Ite t K l) H1)
theorem pY {es:List Expr} {kt} {tp:Pos} {ta:TA} (hg:L2.Gl X "enumerate") (hm:X.mg "enumerate"=none) (ha:PA X [a] ta) (he:starEach [a] X.env=(false,eval a X.env)::starEach [] X.env):
  PI X (.Tuple es kt tp) (.Call (.Name "enumerate" p) [a] [] pos) (iEn X.K ta):=by
 intro pins s σ H R I h
 refine Call_ (bM (u:= .type "enumerate") I hg hm (by decide+kernel) (PyProof.Rows.callWith_type1 (L2.thn (ha pos pins s σ H _ I h) fun us s1 ⟨vs,H1,I1,r1,q1⟩=> ?_) he rfl) (by decide) (by decide))
 obtain⟨t,l,xs,rfl,hq,q⟩:=q1
 obtain⟨u,rfl,ru⟩:=r1.one
 cases (show u=Value.ref l from ru)
 obtain⟨its,_,p1,z1⟩:=bW I1 hq
 refine nM p1 fun h' a1 a2 a3 a4=>wpAny_pyIter_enum a1 ?_
 refine⟨s1.heap.objs.size+1,[s1.heap.objs.size+1,s1.heap.objs.size],_,Ite t X.K l,H1,rfl,I1.kept (t':=s1.toks) a4,pQ (Nat.succ_ne_self _),⟨⟨_,a1⟩,a2⟩,fun b hb=> ?_,q z1⟩
 have hb':s1.heap.objs.size≤b:=by
  simp only [List.mem_cons,List.not_mem_nil,or_false] at hb
  rcases hb with rfl | rfl
  ·exact Nat.le_succ _
  ·exact Nat.le_refl _
 exact I1.fpOk hb' (I1.hok.fresh hb')
theorem i6 {G1:Hp} {d:D} {v:V} {ds:List D} (r:Rep X.K ad G1 d v) (e:items d=some ds): ∃ t l vs,v= .ref l∧SqA t X.K G1 l vs∧Reps X.K ad G1 ds vs:=by
 cases d<;>try (cases e;done)
 ·cases e;unfold Rep at r;obtain⟨l,vs,rfl,q,t⟩:=r;exact⟨true,l,vs,rfl,q,t⟩
 ·cases e;unfold Rep at r;obtain⟨l,vs,rfl,q,t⟩:=r;exact⟨false,l,vs,rfl,q,t⟩
theorem lY {t:Bool} {G1 H1:Hp} {l:Addr} {i:Nat} {vs:List V} {ds:List D} {d:D} (h1:SqA t X.K G1 l vs) (r1:Reps X.K ad G1 ds vs) (hg:Same G1 H1) (e:(ds.zipIdx.map fun p=>D.tup [.int (p.2:Nat),p.1])[i]? =some d):
  (Ite t X.K l).go i H1∧ ∀ x H2,(Ite t X.K l).yld i H1 x H2→ ∃ G2,Step G1 H1 G2 H2∧Rep X.K ad G2 d x:=by
 rw [List.getElem?_map,List.getElem?_zipIdx] at e
 cases q:ds[i]? with
 | none=>rw [q] at e;cases e
 | some x=>
  rw [q] at e
  have e2:=(Option.some.inj e).symm
  simp only [Nat.zero_add] at e2
  subst e2
  obtain⟨v,g1,q1⟩:=r1.get q
  refine⟨⟨vs,v,aA hg h1,g1⟩, ?_⟩
  rintro x' H2' ⟨p,x2,hn,rfl,b1,rfl⟩
  have c1:=b1 vs (aA hg h1);rw [g1] at c1;cases c1
  refine⟨upd G1 p (.tup [.int i,v]),Step.new hg hn, ?_⟩
  have sm:Same G1 (upd G1 p (.tup [.int i,v])):=Same.upd_new (hg.free hn)
  unfold Rep
  exact⟨p,[.int i,v],rfl,SqT.of aH,Reps.cons aD (Reps.cons (q1.mono sm) Reps.nil)⟩
theorem x9 {es:List Expr} {kt} {tp:Pos} (hg:L2.Gl X "enumerate") (hm:X.mg "enumerate"=none) (ha:ME X ad a f) (he:starEach [a] X.env=(false,eval a X.env)::starEach [] X.env):
  MI X ad (.Tuple es kt tp) (.Call (.Name "enumerate" p) [a] [] pos) (iEnum f):=by
 intro pins s σ H W I ⟨G,ρ,E,hG,hS,hx,hr⟩
 refine pY (ta:=tCons (tE X ad f) tNil) hg hm (aR ha bN he) he pins s σ H W I ?_
 show tE X ad f σ H fun v H1=> ∃ t l xs,[v]=[.ref l]∧SqA t X.K H1 l xs∧(xs.length≤sizeLine→W (Ite t X.K l) H1)
 refine gN hG hS hx hr fun v d G1 H1 st r k=> ?_
 have k':IK X ad G1 H1 (match items d with | some xs=> .ok (.lst (xs.zipIdx.map fun p=>D.tup [.int (p.2:Nat),p.1])) | none=> .bad) W E:=k
 cases e:items d with
 | none=>rw [e] at k';exact k'.elim
 | some ds=>
  rw [e] at k'
  obtain⟨al,e2,hw⟩:=k'
  cases e2
  obtain⟨t,l,vs,rfl,q1,t1⟩:=i6 r e
  have n1:=t1.length
  refine⟨t,l,vs,rfl,aA st.gh q1,fun few=>hw _ G1 H1 (Step.refl st.gh) ⟨fun i G3 H3 d' s3 e=>lY (aA s3.sg q1) (t1.mono s3.sg) s3.gh e,fun G3 H3 s3=>⟨vs,aA s3.sh (aA st.gh q1),by simp;omega⟩,by simp;omega⟩⟩
theorem tQ {es:List Expr} {kt} {tp:Pos} (hg:L2.Gl X "enumerate") (hm:X.mg "enumerate"=none) (ha:ME X ad a f) (he:starEach [a] X.env=(false,eval a X.env)::starEach [] X.env):
  MIG X ad (.Tuple es kt tp) (.Call (.Name "enumerate" p) [a] [] pos) (iEnum f):=by
 intro pins s σ H W I ⟨G,ρ,E,hG,hS,hx,hr⟩
 refine pY (ta:=tCons (tE X ad f) tNil) hg hm (aR ha bN he) he pins s σ H W I ?_
 show tE X ad f σ H fun v H1=> ∃ t l xs,[v]=[.ref l]∧SqA t X.K H1 l xs∧(xs.length≤sizeLine→W (Ite t X.K l) H1)
 refine gP hG hS hx hr fun v d G1 H1 st r k=> ?_
 have k':IGK X ad G1 H1 (match items d with | some xs=> .ok (.lst (xs.zipIdx.map fun p=>D.tup [.int (p.2:Nat),p.1])) | none=> .bad) W E:=k
 cases e:items d with
 | none=>rw [e] at k';exact k'.elim
 | some ds=>
  rw [e] at k'
  obtain⟨al,e2,hw⟩:=k'
  cases e2
  obtain⟨t,l,vs,rfl,q1,t1⟩:=i6 r e
  have n1:=t1.length
  refine⟨t,l,vs,rfl,aA st.gh q1,fun few=>hw _ G1 H1 (Step.refl st.gh) ⟨fun i G3 H3 d' s3 s4 e=>lY (aA s3 q1) (t1.mono s3) s4 e,fun G3 H3 s3 s4=>⟨vs,aA s4 (aA s3 q1),by simp;omega⟩⟩⟩
theorem tR (hc:MT X ad c h) (ha:MT X ad a f) (hb:MT X ad b g):MT X ad (.IfExp c a b pos) (rIf h f g):=by
 intro pins s σ H Q I ⟨G,ρ,E,hG,hS,hx,ht,hr⟩
 have hr':RK X.K ad G H ((h ρ).bind fun x=>match x with | .bl true=>f ρ | .bl false=>g ρ | _=> .bad) (fun v H'=> ∃ b,v= .bl b∧Q b H') E:=hr
 have ht':isTest ((h ρ).bind fun x=>match x with | .bl true=>f ρ | .bl false=>g ρ | _=> .bad):=ht
 have e:isTrue (.IfExp c a b pos) X.env (eval (.IfExp c a b pos) X.env)=(do if←isTrue c X.env (eval c X.env) then isTrue a X.env (eval a X.env) else isTrue b X.env (eval b X.env)):=rfl
 rw [e]
 refine wpAny_bind ?_
 rcases bS ht' with ⟨d,e1,ht2⟩ | ⟨xs,e1,ht2⟩ | ⟨k,e1⟩
 ·cases d<;>try exact(aM ht2).elim
  rename_i k
  rw [e1] at hr'
  refine L2.thn (hc pins s σ H (fun b H1=>b=k∧ ∃ G1,Step G H G1 H1) I ⟨G,ρ,E,hG,hS,hx, .inl ⟨k,e1⟩, ?_⟩) fun b s1 ⟨H1,I1,e2,G1,st⟩=> ?_
  ·rw [e1]
   intro v G1 H1 st r
   unfold Rep at r;subst r
   exact⟨k,rfl,rfl,G1,st⟩
  ·subst e2
   cases b with
   | true=>exact wpAny_ite_true (by decide) (ha pins s1 σ H1 Q I1 ⟨G1,ρ,E,st.gh,hS.step st,hx,ht2,RK.step hr' st⟩)
   | false=>exact wpAny_ite_false (by decide) (hb pins s1 σ H1 Q I1 ⟨G1,ρ,E,st.gh,hS.step st,hx,ht2,RK.step hr' st⟩)
 ·exact(aM ht2).elim
 ·rw [e1] at hr'
  refine L2.thn (hc pins s σ H (fun b H1=>False) I ⟨G,ρ,E,hG,hS,hx, .inr ⟨k,e1⟩, ?_⟩) fun b s1 ⟨H1,I1,z⟩=>z.elim
  rw [e1]
  exact hr'
end
theorem rngList {f:F} {ρ:Rho}:rCall dList [iRange f] ρ=(f ρ).bind fun x=>pInt x fun i=>if -100000≤i∧i≤100000 then .ow (rngD i.toNat) else .bad:=by
 unfold rCall rAll args args iRange
 cases f ρ with
 | ok d=>
  cases d<;>try rfl
  rename_i i
  by_cases h: -100000≤i∧i≤100000<;>simp [R.bind,pInt,h,RA.cons,RA.then,dList,items]
 | ow xs=>rfl
 | ex c=>rfl
 | bad=>rfl
section
variable {X:Cx} {ad:Ad} {pins:List (Addr×Obj)} {s:Shared} {σ:St} {H G:Hp} {ρ:Rho} {Q:VK} {E:Nat→Hp→Prop} {pos p p2 pos2:Pos} {a:Expr} {f:F}
theorem fR {acc:Array Value} {n:Nat} (h:ItemsOf (fun i v=> ∃ t,v=Value.int (0+i * 1) t) acc n):Vals ((List.range n).map fun(i:Nat)=>V.int (i:Int)) acc.toList:=by
 obtain⟨hs,hv⟩:=h
 have key: ∀ (m:Nat) (l:List Value) (k:Nat),l.length=m→(∀ j v,l[j]? =some v→ ∃ t,v=Value.int ((k+j:Nat):Int) t)→Vals ((List.range' k m).map fun(i:Nat)=>V.int (i:Int)) l:=by
  intro m
  induction m with
  | zero=>intro l k e _;cases List.length_eq_zero_iff.mp e;exact .nil
  | succ m ih=>
   intro l k e hv
   cases l with
   | nil=>cases e
   | cons v l=>
    refine .cons (hv 0 v rfl) (ih l (k+1) (by simpa using e) fun j w hw=> ?_)
    obtain⟨t,q⟩:=hv (j+1) w (by simpa using hw)
    exact⟨t,by rw [q];congr 1;omega⟩
 rw [List.range_eq_range']
 refine key n acc.toList 0 (by simpa using hs) fun j v e=> ?_
 obtain⟨t,q⟩:=hv j v (by simpa using e)
 exact⟨t,by rw [q];congr 1;omega⟩
theorem fS {n:Nat}:Reps X.K ad G (rngD n) ((List.range n).map fun(i:Nat)=>V.int (i:Int)):=by
 unfold rngD
 induction (List.range n) with
 | nil=>exact Reps.nil
 | cons x r ih=>exact Reps.cons aD ih
theorem gR (hg:L2.Gl X "range") (hm:X.mg "range"=none) (hgl:L2.Gl X "list") (hml:X.mg "list"=none) (hc:X.calm=true) (ha:ME X ad a f) (hs:starEach [a] X.env=(false,eval a X.env)::starEach [] X.env):
  ME X ad (.Call (.Name "list" p) [.Call (.Name "range" p2) [a] [] pos2] [] pos) (rCall dList [iRange f]):=by
 intro pins s σ H Q I ⟨G,ρ,E,hG,hS,hx,hr⟩
 rw [rngList] at hr
 refine Call_ (bM (u:= .type "list") I hgl hml (by decide+kernel) (PyProof.Rows.callWith_type1 ?_ rfl rfl) (by decide) (by decide))
 refine Calls.spliced_cons ?_
 refine Call_ (bM (u:= .type "range") I hg hm boot_range (PyProof.Rows.callWith_type1 ?_ hs rfl) (by decide) (by decide))
 rw [hs]
 refine Calls.spliced_cons (L2.thn (ha.thn I hG hS hx hr) fun u s1 ⟨v,d,G1,H1,I1,r1,st,q,k1⟩=>Calls.spliced_nil ?_)
 cases d<;>try exact False.elim k1
 rename_i i
 unfold Rep at q;subst q
 obtain⟨t,rfl⟩:=r1
 have k2:RK X.K ad G1 H1 (if -100000≤i∧i≤100000 then .ow (rngD i.toNat) else .bad) Q E:=k1
 by_cases hb: -100000≤i∧i≤100000
 ·rw [if_pos hb] at k2
  refine call_range_1 (Calls.spliced_nil ?_)
  have I2:Inv X pins σ H1 { s1 with heap:=s1.heap.push { cls:= .type "range",data:= .fields #[.int 0 s1.toks, .int i t, .int 1 (s1.toks+1)] },toks:=s1.toks+1+1 }:=I1.kept fun b o e=>Heap.get?_push_of_some _ e
  have hn:Builtin.Range.rangeSize 0 i 1=(i.toNat:Int):=by rw [rangeSize_one];split<;>omega
  refine call_list_range (I1.ok.hd hc) (IsRange.new ..) (small_one (by omega) (by omega) (by omega) (by omega)) hn (by omega) fun h' tk acc c' hk hS' hacc=> ?_
  have hv:=fR hacc
  have hz:((List.range i.toNat).map fun(i:Nat)=>V.int (i:Int)).length≤sizeLine:=by rw [sizeLine_eq];simp;omega
  refine⟨.ref _,_,I2.laid (t':=tk) hk (Nat.le_refl _) (show ObjOk X.prog X.w _ h' _ (.lst _) from⟨hz,acc.toList,c',hv,by simpa using hS'⟩),rfl,k2.ow_new st.gh fS (I2.hok.fresh (Nat.le_refl _))⟩
 ·rw [if_neg hb] at k2
  exact k2.elim
end
theorem eT (i:Int): ∀ l:List Int,(insI i l).Perm (i::l)
 | []=>List.Perm.refl _
 | j::r=>by
  unfold insI
  split
  ·exact List.Perm.refl _
  ·exact((eT i r).cons j).trans (List.Perm.swap i j r)
theorem cW: ∀ l:List Int,(sortI l).Perm l
 | []=>List.Perm.refl _
 | i::r=>(eT i (sortI r)).trans ((cW r).cons i)
theorem fT (i:Int): ∀ {l:List Int},l.Pairwise (· ≤ ·)→(insI i l).Pairwise (· ≤ ·)
 | [],_=>List.pairwise_singleton _ _
 | j::r,h=>by
  unfold insI
  have h1:=List.pairwise_cons.mp h
  split
  ·rename_i hij
   refine List.pairwise_cons.mpr ⟨fun a ha=> ?_,h⟩
   rcases List.mem_cons.mp ha with rfl | ha
   ·exact hij
   ·exact Int.le_trans hij (h1.1 a ha)
  ·rename_i hij
   refine List.pairwise_cons.mpr ⟨fun a ha=> ?_,fT i h1.2⟩
   rcases List.mem_cons.mp ((eT i r).mem_iff.mp ha) with rfl | ha
   ·omega
   ·exact h1.1 a ha
theorem d8: ∀ l:List Int,(sortI l).Pairwise (· ≤ ·)
 | []=>List.Pairwise.nil
 | i::r=>fT i (d8 r)
theorem nN {l m:List Int} (p:m.Perm l) (h:m.Pairwise (· ≤ ·)):m=sortI l:=
 List.Perm.eq_of_pairwise (fun _ _ _ _ a b=>Int.le_antisymm a b) h (d8 l) (p.trans (cW l).symm)
section
variable {prog:Program} {w:World} {A:Around} {Ex:Value→Shared→Prop} {s:Shared}
theorem nO {l:Addr} {T:String} {o:Obj} {vs:List Value} {ns:List Int} {n:Nat} {Q:Value→Shared→Prop} (hT:T="list"∨T="tuple") (ho:s.heap.get? l=some o) (hc:o.cls= .type T) (hd:o.data= .seq vs.toArray n) (hI:IntsAre vs ns) (h64:vs.length<64)
  (h: ∀ (h1 h':Heap) (out:Array Value) (ns':List Int) (e:Nat),(∀ b o,s.heap.get? b=some o→h1.get? b=some o)→(∀ b o,h1.get? b=some o→h'.get? b=some o)→h'.get? h1.objs.size=some (seqObj "list" out e)→IntsAre out.toList ns'→ns'.Perm ns→ns'.Pairwise (· ≤ ·)→Q (.ref h1.objs.size) { s with heap:=h' }):
  wpAny (model prog w) A (call (.builtin "sorted") [.ref l]) Q Ex s:=by
 have hz:vs.toArray.size≤sizeLine:=by rw [sizeLine_eq];simp;omega
 refine Calls.call_function_entry kind_sorted plain_sorted entry_sorted (args_sorted1 _) ?_
 unfold Builtin.«sorted»
 refine wpAny_bind (m:=checkCount "sorted" 1 1 _) (wpAny_pure ?_)
 refine wpAny_bind (wpAny_collect_seq (hsz:=hz) l hT ho hc hd fun h1 k1=> ?_)
 refine wpAny_bind (wpAny_newList ?_ (by rw [sizeLine_eq];simp;omega))
 have hoL:(h1.push (seqObj "list" vs.toArray 0)).get? h1.objs.size=some (seqObj "list" vs.toArray 0):=Heap.get?_push_size _ rfl
 show wpAny _ _ _ _ _ { s with heap:=h1.push (seqObj "list" vs.toArray 0) }
 refine wpAny_bind (wpAny_holding (wpAny_call_entry slot_list_sort ⟨_,hoL,rfl⟩ entry_list_sort (list_sort_tree hoL hI h64 fun out ns' a1 a2 a3=>⟨_,rfl, ?_⟩) (args_list_sort _)))
 obtain⟨e,he⟩:=sortedHeap_at (out:=out) hoL
 refine wpAny_pure ⟨_,rfl,h h1 _ out ns' e k1 (fun b o' q1=> ?_) he a1 a2 a3⟩
 have lt:b<h1.objs.size:=Heap.lt_size q1
 rw [sortedHeap_old (Nat.ne_of_lt lt) (by rw [Heap.size_push];exact Nat.lt_succ_of_lt lt),Heap.get?_push_ne _ _ _ (Nat.ne_of_lt lt)]
 exact q1
end
section
variable {X:Cx} {ad:Ad}
theorem i7: ∀ {us:List Value} {ns:List Int},IntsAre us ns→Vals (ns.map V.int) us
 | _,_, .nil=> .nil
 | _,_, .cons n t h=> .cons ⟨t,rfl⟩ (i7 h)
theorem lZ: ∀ {ds:List D} {ns:List Int},dInts ds=some ns→ds=ns.map D.int
 | [],ns,h=>by cases h;rfl
 | d::r,ns,h=>by
  cases d<;>try (cases h;done)
  rename_i i
  obtain⟨ms,h1,rfl⟩:=zMd (show(dInts r).map (i:: ·)=some ns from h)
  rw [lZ h1];rfl
theorem i8 {G:Hp}: ∀ {ns:List Int} {vs:List V},Reps X.K ad G (ns.map D.int) vs→vs=ns.map V.int
 | [],vs,h=>by unfold Reps at h;exact h
 | n::r,vs,h=>by
  unfold Reps at h
  obtain⟨v,rs,rfl,h1,h2⟩:=h
  unfold Rep at h1
  rw [h1,i8 h2];rfl
theorem fF {pins:List (Addr×Obj)} {s:Shared} {σ:St} {H G:Hp} {x:D} {v:V} {u:Value} {Q:VK} {E:Nat→Hp→Prop} {ds:List D} {ns:List Int} (I:Inv X pins σ H s) (hG:Same G H) (q:Seq X ad G H x v) (ru:RelV v u) (e1:items x=some ds) (e2:dInts ds=some ns)
  (hr2:RK X.K ad G H (if ns.length<64 then .ow ((sortI ns).map D.int) else .bad) Q E):wpAny (model X.prog X.w) X.A (call (.builtin "sorted") [u]) (EP X pins σ Q) X.xe s:=by
  by_cases h64:ns.length<64
  ·rw [if_pos h64] at hr2
   cases lZ e2
   obtain⟨p,vs,rfl,hq,rq⟩:=q.items hG e1
   cases i8 rq
   cases (show u=Value.ref p from ru)
   obtain⟨T,o,its,n,hT,h1,h2,h3,hv⟩: ∃ T o its n,(T="list"∨T="tuple")∧s.heap.get? p=some o∧o.cls= .type T∧o.data= .seq (List.toArray its) n∧Vals (ns.map V.int) its:=by
    rcases hq with z | z
    ·obtain⟨its,rv,⟨o,a,b,n,c⟩,_⟩:=I.tuple z.2
     exact⟨"tuple",o,its,n, .inr rfl,a,b,c,rv⟩
    ·obtain⟨its,rv,pl,_⟩:=I.list z.2
     obtain⟨o,a,b,n,c⟩:=pl.isList
     exact⟨"list",o,its,n, .inl rfl,a,b,c,rv⟩
   refine nO hT h1 h2 h3 (nG hv) (by rw [←hv.length];simpa using h64) fun g1 g2 out ns' e k1 k2 at' hi pm sr=> ?_
   have I1:Inv X pins σ H { s with heap:=g1 }:=I.kept (t':=s.toks) k1
   cases nN pm sr
   have hz:((sortI ns).map V.int).length≤sizeLine:=by rw [sizeLine_eq,List.length_map,(cW ns).length_eq];omega
   refine⟨.ref g1.objs.size,_,I1.laid (t':=s.toks) k2 (Nat.le_refl _) (show ObjOk X.prog X.w _ g2 _ (.lst _) from⟨hz,out.toList,e,i7 hi,by simpa using at'⟩),rfl,hr2.ow_new hG Reps.map_int (I1.hok.fresh (Nat.le_refl _))⟩
  ·rw [if_neg h64] at hr2
   exact hr2.elim
end
section
variable {prog:Program} {w:World} {A:Around} {Ex:Value→Shared→Prop} {s:Shared}
theorem tU {r:Addr} {a b c:Int} {t u v:Tok} {n:Nat} {Q:List Value→Shared→Prop} (hh:A.handled=none) (hr:IsRange s.heap r a b c t u v) (hsmall:Builtin.Range.small a b c=true) (hn:Builtin.Range.rangeSize a b c=n) (hlen:n≤2 ^ 24)
  (hQ: ∀ (h':Heap) (tk:Nat) (acc:Array Value),(∀ b o,s.heap.get? b=some o→h'.get? b=some o)→ItemsOf (fun i v=> ∃ t,v=Value.int (a+i * c) t) acc n→Q acc.toList { s with heap:=h',toks:=tk }):wpAny (model prog w) A (collect (.ref r)) Q Ex s:=by
 unfold collect
 refine wpAny_bind (wpAny_runValue (codeAny_builtin F.entry_proto_collect ?_));rw [Around.under_plainId F.plain_proto_collect _]
 show wpAny _ A.in1 (newList [] >>= fun l=>again (.builtin "list.__iadd__" ⟨[l, .ref r],[]⟩)) _ _ s
 refine wpAny_bind (wpAny_newObj_type (wpAny_pure ⟨plainId_quiet F.plain_list_iadd _,codeAny_builtin F.entry_list_iadd ?_⟩));rw [Around.under_plainId F.plain_list_iadd _]
 show wpAny _ A.in1 (Builtin.List.listExtendWith (.ref s.heap.objs.size) (.ref r) (.ref s.heap.objs.size)) _ _ _
 have hS:(s.heap.push { cls:= .type "list",data:= .seq ([]:List Value).toArray }).get? s.heap.objs.size=some { cls:= .type "list",data:= .seq #[] 0 }:=Heap.get?_push_size _ rfl
 refine wpAny_mono (wpAny_extend_range (A:=A) (R:=fun res s'=> ∃ h' tk acc c',res= .ok (.ret (.ref s.heap.objs.size))∧s'={ s with heap:=h',toks:=tk }∧(∀ b o,s.heap.get? b=some o→h'.get? b=some o)∧h'.get? s.heap.objs.size=some { cls:= .type "list",dict:=none,data:= .seq acc c',slots:= #[] }∧ItemsOf (fun i v=> ∃ t,v=Value.int (a+i * c) t) acc n)
  (s:={ s with heap:=s.heap.push { cls:= .type "list",data:= .seq ([]:List Value).toArray } }) hh (Heap.get?_push_of_some _ hr) hsmall hn hlen _ _ 0 hS fun h' tk acc c' hk hS' hacc=>⟨h',tk,acc,c',rfl,rfl,fun b o e=>hk b o (Nat.ne_of_lt (Heap.lt_size e)) (Heap.get?_push_of_some _ e),hS',hacc⟩) (fun fin s' h=> ?_) (fun e s' h=> ?_)
 ·cases fin with
  | done f=>
   obtain⟨h',tk,acc,c',e,rfl,k,at',ia⟩:=h
   cases e
   show wpAny _ A (load s.heap.objs.size >>= _) _ _ _
   exact wpAny_bind (wpAny_load at' (wpAny_pure (hQ h' tk acc k ia)))
  | again cd=>
   refine⟨h.1,codeAny_mono h.2 fun res s'' hr=> ?_⟩
   obtain⟨h',tk,acc,c',rfl,rfl,k,at',ia⟩:=hr
   show wpAny _ A (load s.heap.objs.size >>= _) _ _ _
   exact wpAny_bind (wpAny_load at' (wpAny_pure (hQ h' tk acc k ia)))
 ·obtain⟨h',tk,acc,c',z,_⟩:=h
  cases z
end
open AutoSeq1 (wpAny_loadPart') in
theorem tV (r:Addr) (a b c:Int) (t u v:Tok) (n:Nat) (hsmall:Builtin.Range.small a b c=true) (hn:Builtin.Range.rangeSize a b c=n) (hlen:n≤2 ^ 24):
  Meets (Builtin.«tuple.__new__» ⟨[.type "tuple", .ref r],[]⟩) (fun A R s=>A.handled=none∧IsRange s.heap r a b c t u v∧ ∀ (h':Heap) (tk:Nat) (acc:Array Value),(∀ b o,s.heap.get? b=some o→h'.get? b=some o)→ItemsOf (fun i v=> ∃ t,v=Value.int (a+i * c) t) acc n→
   R (.ok (.ret (.ref h'.objs.size))) { s with heap:=h'.push { cls:= .type "tuple",data:= .seq acc },toks:=tk }):=
 .of_wp fun prog w A R s h=>by
  obtain⟨hp,g,d,tk,os⟩:=s
  obtain⟨hh,hr,h⟩:=h
  have hsub:=sub_tuple_self
  have hinit:=init_tuple_lookup
  have hmh:=madeHere_tuple
  have hT:Shared.TypeIs ⟨hp,g,d,tk,os⟩ (.ref r) "range":=⟨_,hr,rfl⟩
  wp_walk using wpAny_loadPart' hr,wpAny_typeOf hT,tU (A:=A.in1) hh hr hsmall hn hlen
  intro h' tk' acc hk hacc
  show wpAny _ _ (Builtin.Tuple.tupleExact acc.toList.toArray >>= fun v=>ret v) _ _ _
  unfold Builtin.Tuple.tupleExact
  have e:acc.toList.toArray=acc:=by simp
  rw [e]
  refine wpAny_bind (wpAny_newObj_type ?_ (by show acc.size≤sizeLine;rw [hacc.1,sizeLine_eq];omega))
  exact wpAny_pure ⟨_,rfl,h h' tk' acc hk hacc⟩
section
variable {prog:Program} {w:World} {A:Around} {Ex:Value→Shared→Prop} {s:Shared}
theorem kO {r:Addr} {a b c:Int} {t u v:Tok} {n:Nat} {Q:Value→Shared→Prop} (hh:A.handled=none) (hr:IsRange s.heap r a b c t u v) (hsmall:Builtin.Range.small a b c=true) (hn:Builtin.Range.rangeSize a b c=n) (hlen:n≤2 ^ 24)
  (hQ: ∀ (h':Heap) (tk:Nat) (acc:Array Value),(∀ b o,s.heap.get? b=some o→h'.get? b=some o)→ItemsOf (fun i v=> ∃ t,v=Value.int (a+i * c) t) acc n→Q (.ref h'.objs.size) { s with heap:=h'.push { cls:= .type "tuple",data:= .seq acc },toks:=tk }):
  wpAny (model prog w) A (call (.type "tuple") [.ref r]) Q Ex s:=
 callType_new F.called_tuple (by decide) (F.typeCall_tuple_1 _) (F.newCall_tuple_1 _) (fun obj=>F.args_object_init_2 obj _) F.entry_tuple_new (tV r a b c t u v n hsmall hn hlen)
  ⟨hh,hr,fun h' tk acc hk hacc=>⟨⟨_,Heap.get?_push_size _ rfl,rfl⟩,hQ h' tk acc hk hacc⟩⟩
end
theorem rngTup {f:F} {ρ:Rho}:rCall dTuple [iRange f] ρ=(f ρ).bind fun x=>pInt x fun i=>if -100000≤i∧i≤100000 then .ok (.tup (rngD i.toNat)) else .bad:=by
 unfold rCall rAll args args iRange
 cases f ρ with
 | ok d=>
  cases d<;>try rfl
  rename_i i
  by_cases h: -100000≤i∧i≤100000<;>simp [R.bind,pInt,h,RA.cons,RA.then,dTuple,items]
 | ow xs=>rfl
 | ex c=>rfl
 | bad=>rfl
section
variable {X:Cx} {ad:Ad} {pos p p2 pos2:Pos} {a:Expr} {f:F}
theorem fG (hg:L2.Gl X "range") (hm:X.mg "range"=none) (hgl:L2.Gl X "tuple") (hml:X.mg "tuple"=none) (hc:X.calm=true) (ha:ME X ad a f) (hs:starEach [a] X.env=(false,eval a X.env)::starEach [] X.env):
  ME X ad (.Call (.Name "tuple" p) [.Call (.Name "range" p2) [a] [] pos2] [] pos) (rCall dTuple [iRange f]):=by
 intro pins s σ H Q I ⟨G,ρ,E,hG,hS,hx,hr⟩
 rw [rngTup] at hr
 refine Call_ (bM (u:= .type "tuple") I hgl hml (by decide+kernel) (PyProof.Rows.callWith_type1 ?_ rfl rfl) (by decide) (by decide))
 refine Calls.spliced_cons ?_
 refine Call_ (bM (u:= .type "range") I hg hm boot_range (PyProof.Rows.callWith_type1 ?_ hs rfl) (by decide) (by decide))
 rw [hs]
 refine Calls.spliced_cons (L2.thn (ha.thn I hG hS hx hr) fun u s1 ⟨v,d,G1,H1,I1,r1,st,q,k1⟩=>Calls.spliced_nil ?_)
 cases d<;>try exact False.elim k1
 rename_i i
 unfold Rep at q;subst q
 obtain⟨t,rfl⟩:=r1
 have k2:RK X.K ad G1 H1 (if -100000≤i∧i≤100000 then .ok (.tup (rngD i.toNat)) else .bad) Q E:=k1
 by_cases hb: -100000≤i∧i≤100000
 ·rw [if_pos hb] at k2
  refine call_range_1 (Calls.spliced_nil ?_)
  have I2:Inv X pins σ H1 { s1 with heap:=s1.heap.push { cls:= .type "range",data:= .fields #[.int 0 s1.toks, .int i t, .int 1 (s1.toks+1)] },toks:=s1.toks+1+1 }:=I1.kept fun b o e=>Heap.get?_push_of_some _ e
  have hn:Builtin.Range.rangeSize 0 i 1=(i.toNat:Int):=by rw [rangeSize_one];split<;>omega
  refine kO (I1.ok.hd hc) (IsRange.new ..) (small_one (by omega) (by omega) (by omega) (by omega)) hn (by omega) fun h' tk acc hk hacc=> ?_
  have hv:=fR hacc
  have I3:Inv X pins σ H1 { s1 with heap:=h',toks:=tk }:=I2.kept (t':=tk) hk
  have hz:((List.range i.toNat).map fun(i:Nat)=>V.int (i:Int)).length≤sizeLine:=by rw [sizeLine_eq];simp;omega
  refine⟨.ref _,_,I3.laid (t':=tk) (fun b o e=>Heap.get?_push_of_some _ e) (Nat.le_refl _) (show ObjOk X.prog X.w _ _ _ (.tup _) from⟨hz,acc.toList,hv,⟨_,Heap.get?_push_size _ rfl,rfl,0,by simp⟩,⟨_,Heap.get?_push_size _ rfl,rfl⟩⟩),rfl,k2.tup_new st.gh fS (I3.hok.fresh (Nat.le_refl _))⟩
 ·rw [if_neg hb] at k2
  exact k2.elim
end
theorem pZ: ∀ (l:List Int) (m:Int),m≤maxL m l∧ ∀ x∈l,x≤maxL m l
 | [],m=>⟨Int.le_refl _,nofun⟩
 | i::r,m=>by
  have h:=pZ r (if m<i then i else m)
  unfold maxL
  by_cases c:m<i
  ·rw [if_pos c] at h ⊢
   exact⟨by omega,fun x hx=>by rcases List.mem_cons.1 hx with e | e;(subst e;exact h.1);exact h.2 x e⟩
  ·rw [if_neg c] at h ⊢
   exact⟨h.1,fun x hx=>by rcases List.mem_cons.1 hx with e | e;(subst e;omega);exact h.2 x e⟩
theorem l4: ∀ (l:List Int) (m:Int),maxL m l∈m::l
 | [],m=> .head _
 | i::r,m=>by
  unfold maxL
  have h:=l4 r (if m<i then i else m)
  by_cases c:m<i
  ·rw [if_pos c] at h ⊢;exact .tail _ h
  ·rw [if_neg c] at h ⊢
   rcases List.mem_cons.1 h with e | e
   ·rw [e];exact .head _
   ·exact .tail _ (.tail _ e)
theorem p8: ∀ (l:List Int) (m:Int),minL m l≤m∧ ∀ x∈l,minL m l≤x
 | [],m=>⟨Int.le_refl _,nofun⟩
 | i::r,m=>by
  have h:=p8 r (if i<m then i else m)
  unfold minL
  by_cases c:i<m
  ·rw [if_pos c] at h ⊢
   exact⟨by omega,fun x hx=>by rcases List.mem_cons.1 hx with e | e;(subst e;exact h.1);exact h.2 x e⟩
  ·rw [if_neg c] at h ⊢
   exact⟨h.1,fun x hx=>by rcases List.mem_cons.1 hx with e | e;(subst e;omega);exact h.2 x e⟩
theorem l5: ∀ (l:List Int) (m:Int),minL m l∈m::l
 | [],m=> .head _
 | i::r,m=>by
  unfold minL
  have h:=l5 r (if i<m then i else m)
  by_cases c:i<m
  ·rw [if_pos c] at h ⊢;exact .tail _ h
  ·rw [if_neg c] at h ⊢
   rcases List.mem_cons.1 h with e | e
   ·rw [e];exact .head _
   ·exact .tail _ (.tail _ e)
theorem l6 {l:List Int} {j:Nat} (h:j<l.length):l.getD j 0∈l:=by
 have e:l.getD j 0=l[j]:=by simp [h]
 rw [e];exact List.getElem_mem h
theorem l7 {l:List Int} {x:Int} (h:x∈l): ∃ j,j<l.length∧l.getD j 0=x:=by
 obtain⟨j,hj,e⟩:=List.getElem_of_mem h
 exact⟨j,hj,by simp [hj,e]⟩
theorem aBn {n:Int} {r:List Int} {j:Nat} (hj:j<(n::r).length) (h: ∀ i,i<(n::r).length→(n::r).getD i 0≤(n::r).getD j 0):(n::r).getD j 0=maxL n r:=by
 have a:=pZ r n
 have b:=l6 hj
 obtain⟨k,hk,e⟩:=l7 (l4 r n)
 have c:=h k hk
 have d:(n::r).getD j 0≤maxL n r:=by
  rcases List.mem_cons.1 b with e | e
  ·rw [e];exact a.1
  ·exact a.2 _ e
 rw [e] at c;omega
theorem aBo {n:Int} {r:List Int} {j:Nat} (hj:j<(n::r).length) (h: ∀ i,i<(n::r).length→(n::r).getD j 0≤(n::r).getD i 0):(n::r).getD j 0=minL n r:=by
 have a:=p8 r n
 have b:=l6 hj
 obtain⟨k,hk,e⟩:=l7 (l5 r n)
 have c:=h k hk
 have d:minL n r≤(n::r).getD j 0:=by
  rcases List.mem_cons.1 b with e | e
  ·rw [e];exact a.1
  ·exact a.2 _ e
 rw [e] at c;omega
section
variable {X:Cx} {ad:Ad}
theorem tW (hh:X.A.handled=none):BOp X ad (.builtin "max") dMax1:=by
 intro pins s σ H G x v u Q E I hG q ru hr
 have hr':RK X.K ad G H (match(items x).bind dInts with | some (n::ns)=> .ok (.int (maxL n ns)) | _=> .bad) Q E:=hr
 cases e:items x with
 | none=>rw [e] at hr';exact hr'.elim
 | some ds=>
  rw [e] at hr'
  have hr2:RK X.K ad G H (match dInts ds with | some (n::ns)=> .ok (.int (maxL n ns)) | _=> .bad) Q E:=hr'
  cases e2:dInts ds with
  | none=>rw [e2] at hr2;exact hr2.elim
  | some ns=>
   rw [e2] at hr2
   cases ns with
   | nil=>exact hr2.elim
   | cons n ns=>
   obtain⟨p,vs,rfl,hq,rq⟩:=q.items hG e
   have hq':SqL X.K H p vs∨SqT X.K H p vs:=hq.elim (fun z=> .inr z.2) fun z=> .inl z.2
   cases (show u=Value.ref p from ru)
   have ev:=cD e2 rq
   subst ev
   refine call_max_walkS (bT (A:=X.A.in1) hh I hq' fun its s2 I' fp wr Stt rv W st hfp h1 h2 h3 h4 h5=> ?_)
   have hl:its.length=(n::ns).length:=by rw [←rv.length,List.length_map]
   refine⟨I',fp,wr,_,its.length,_,_,_,rfl,W.toS,st,hfp,by rw [hl];simp,CmpOf.ints_gt (fun i=>(n::ns).getD i 0) fun i v e=>fL rv e,fun v s' hv m=> ?_⟩
   obtain⟨t',rfl⟩:=fL rv hv
   have hb:=argBest_gt (fun i=>(n::ns).getD i 0) (its.length - 1)
   refine⟨.int (maxL n ns),H,I.moved h5 h4 h1 h2 h3 m,⟨t', ?_⟩,hr2.ok_now hG aD⟩
   rw [aBn (by rw [←hl];have:0<its.length:=(by rw [hl];simp);omega) fun i hi=>hb.2 i (by omega)]
theorem kP (hh:X.A.handled=none) {pins:List (Addr×Obj)} {s:Shared} {σ:St} {H G:Hp} {x:D} {v:V} {u:Value} {Q:VK} {E:Nat→Hp→Prop} {ds:List D} {n:Int} {ns:List Int} (I:Inv X pins σ H s) (hG:Same G H) (q:Seq X ad G H x v) (ru:RelV v u) (e:items x=some ds) (e2:dInts ds=some (n::ns)) (hr2:RK X.K ad G H (.ok (.int (minL n ns))) Q E):
  wpAny (model X.prog X.w) X.A (call (.builtin "min") [u]) (EP X pins σ Q) X.xe s:=by
 obtain⟨p,vs,rfl,hq,rq⟩:=q.items hG e
 have hq':SqL X.K H p vs∨SqT X.K H p vs:=hq.elim (fun z=> .inr z.2) fun z=> .inl z.2
 cases (show u=Value.ref p from ru)
 have ev:=cD e2 rq
 subst ev
 refine call_min_walkS (bT (A:=X.A.in1) hh I hq' fun its s2 I' fp wr Stt rv W st hfp h1 h2 h3 h4 h5=> ?_)
 have hl:its.length=(n::ns).length:=by rw [←rv.length,List.length_map]
 refine⟨I',fp,wr,_,its.length,_,_,_,rfl,W.toS,st,hfp,by rw [hl];simp,CmpOf.ints_lt (fun i=>(n::ns).getD i 0) fun i v e=>fL rv e,fun v s' hv m=> ?_⟩
 obtain⟨t',rfl⟩:=fL rv hv
 have hb:=argBest_lt (fun i=>(n::ns).getD i 0) (its.length - 1)
 refine⟨.int (minL n ns),H,I.moved h5 h4 h1 h2 h3 m,⟨t', ?_⟩,hr2.ok_now hG aD⟩
 rw [aBo (by rw [←hl];have:0<its.length:=(by rw [hl];simp);omega) fun i hi=>hb.2 i (by omega)]
end
section
variable {prog:Program} {w:World} {A:Around} {Ex:Value→Shared→Prop} {s:Shared}
end
section
variable {prog:Program} {w:World} {A:Around} {Ex:Value→Shared→Prop} {s:Shared}
end
section
open AutoSeq1 (wpAny_loadPart')
open MeetsSeq MeetsSeq2 MeetsSeq3 SeqRoads2 SeqAt
theorem gS (l:Addr) (items:Array Value) (n:Nat) (dd:Option Addr) (sl:Array (Option Value)) (x:Value) (e:Value→Bool) (j:Nat) (hj:j<items.size)
  (hit:e items[j]=true) (hno: ∀ m (hm:m<items.size),m<j→e items[m]=false):
  Meets (Builtin.«tuple.index» ⟨[.ref l,x],[]⟩)
   (fun A R s=>s.heap.get? l=some { cls:= .type "tuple",dict:=dd,data:= .seq items n,slots:=sl }∧(∀ y,y∈items→EqAt A.in1 s y x (e y))∧R (.ok (.ret (.int j s.toks))) { s with toks:=s.toks+1 }):=
 .of_wp fun prog w A R s h=>by
  obtain⟨hp,g,d,tk,os⟩:=s;obtain⟨hl,he,h⟩:=h
  wp_walk using wpAny_loadPart' hl
  show wpAny (model prog w) A.in1 (forIn [0:min items.size items.size] ((none,()):Option _×Unit) (fun(i:Nat) _=>match items[i]? with
      | some y=>do
       let b←eqBool y x
       if b=true then do
         let r←retInt (i:Int)
         pure (ForInStep.done (some r,()))
        else pure (ForInStep.yield (none,()))
      | _=>pure (ForInStep.yield (none,())))) _ _ _
  rw [Std.Legacy.Range.forIn_eq_forIn_range']
  refine wpAny_forIn_list _ (fun rest b s'=>b.1=none∧s'=⟨hp,g,d,tk,os⟩∧ ∃ i,i≤j∧rest=List.range' i (items.size - i)) _ ?turn ?fin _ _ ?st
  case turn=>
   rintro y rest b s' ⟨hb,rfl,i,hi,hr⟩
   have hlt:i<items.size:=by omega
   obtain⟨rfl,hr⟩:y=i∧rest=List.range' (i+1) (items.size - (i+1)):=by
    have:items.size - i=(items.size - (i+1))+1:=by omega
    rw [this,List.range'_succ] at hr
    simpa using hr
   have h1:items[y]? =some items[y]:=by simp [hlt]
   rw [h1]
   refine wpAny_bind (he items[y] (Array.getElem_mem hlt) prog w _ _ ?_)
   rcases Nat.lt_or_ge y j with hy | hy
   ·rw [hno y hlt hy]
    wp_walk
    exact⟨rfl,rfl,y+1,by omega,hr⟩
   ·have:y=j:=by omega
    subst this
    rw [hit]
    wp_walk
    exact⟨_,rfl,h⟩
  case fin=>
   rintro b s' ⟨hb,rfl,i,hi,hr⟩
   have:items.size - i=(items.size - (i+1))+1:=by omega
   rw [this,List.range'_succ] at hr
   cases hr
  case st=>
   refine⟨rfl,rfl,0,Nat.zero_le _, ?_⟩
   simp [Std.Legacy.Range.size]
end
section
variable {X:Cx} {ad:Ad} {pins:List (Addr×Obj)} {s:Shared} {σ:St} {H G:Hp} {ρ:Rho} {Q:VK} {E:Nat→Hp→Prop} {pos p ap cp tp:Pos} {o a b c tg:Expr} {f g h:F}
theorem yA (ho:ME X ad o f) (hbase:attributeBase o "bit_length" X.env (eval o X.env)=eval o X.env) (hline:(ap.endLine==cp.line)=true):ME X ad (.Call (.Attribute o "bit_length" ap) [] [] cp) (rCall dBits [f]):=by
 intro pins s σ H Q I ⟨G,ρ,E,hG,hS,hx,hr⟩
 unfold rCall at hr
 rw [eE] at hr
 refine wpAny_Call_method_late hbase (by rfl) hline rfl (L2.thn (ho.thn I hG hS hx hr) fun v s1 hz_=> ?_)
 obtain⟨x,d,G1,H1,I1,r1,st1,q1,k1⟩:=hz_
 cases d<;>try exact False.elim k1
 rename_i i
 unfold Rep at q1;subst q1
 obtain⟨t,rfl⟩:=r1
 have k2:RK X.K ad G1 H1 (.ok (.int (Builtin.Int.intBits i))) Q E:=k1
 refine⟨"int","int.bit_length",PySem.F.plainAttrs_int,PySem.F.slot_int_bit_length,PySem.F.type_int_bit_length,typeIs_int s1 i t,(fun a' ea=>by cases ea), ?_⟩
 refine PyProof.Rows.callWith_method0 ?_
 exact call_int_bit_length ⟨.int _,H1,I1.tok _,⟨_,rfl⟩,k2.ok_now st1.gh aD⟩
theorem aBp (hu:X.A.units+62<cLine) (ho:ML X ad o f) (ha:ME X ad a g) (hs:starEach [a] X.env=(false,eval a X.env)::starEach [] X.env) (hbase:attributeBase o "count" X.env (eval o X.env)=eval o X.env) (hline:(ap.endLine==cp.line)=true):
  ME X ad (.Call (.Attribute o "count" ap) [a] [] cp) (rCnt f g):=by
 intro pins s σ H Q I ⟨G,ρ,E,hG,hS,hx,hr⟩
 refine wpAny_Call_method_late hbase (cI hs) hline rfl (L2.thn (ho.lk pins s σ H G ρ _ Q E I hG hS hx hr) fun v s1 hz_=> ?_)
 obtain⟨x,d,G1,H1,I1,r1,st1,q1,k1⟩:=hz_
 cases d with
 | lst ds=>
  obtain⟨l,xs,rfl,hq,rq⟩:=pW st1.gh q1
  cases (show v=Value.ref l from r1)
  obtain⟨its,rv,pl,_⟩:=I1.list hq
  obtain⟨ob,n,e1,e2,e3,e4⟩:=pl
  refine⟨"list",_,PySem.F.plainAttrs_list,PySem.F.slot_list_count,PySem.F.type_list_count,⟨ob,e1,e2⟩,fun a' ea=>by cases ea;exact⟨ob,e1,e3⟩, ?_⟩
  rw [hs]
  refine Calls.callWith_builtin rfl (Calls.evalArgs_plain (Calls.spliced_cons (L2.thn (ha.thn I1 st1.gh (hS.step st1) hx k1) fun u s2 ⟨w,y,G2,H2,I2,r2,st2,q2,k2⟩=>Calls.spliced_nil ?_)))
  have k':RK X.K ad G2 H2 (if inOk y ds then .ok (.int ((ds.countP fun z=>deq z y):Nat)) else .bad) Q E:=k2
  by_cases hc:inOk y ds=true
  ·rw [if_pos hc] at k'
   obtain⟨its,rv,⟨⟨cls,dd,data,sl⟩,n,e1,e2,e3,e4⟩,_⟩:=I2.list (st2.sh.seq hq)
   simp only at e2 e3 e4
   subst e2 e4
   obtain⟨e,he,_,hcount,_⟩:=dA hu I2 st2.gh hc q2 r2 (rq.mono st2.sg) rv
   refine call_meets PySem.F.slot_list_count ⟨_,e1,rfl⟩ PySem.F.entry_list_count (PySem.F.args_list_count_2 _ _) (SeqAt.list_countAt l its.toArray n dd sl u e) ⟨e1,he, ?_⟩
   refine⟨.int _,H2,I2.tok _,⟨_,rfl⟩, ?_⟩
   rw [←hcount] at k'
   exact k'.ok_now st2.gh aD
  ·rw [if_neg hc] at k'
   exact k'.elim
 | tup ds=>
  rcases q1 with q1 | ⟨_,_,_,z,_⟩
  ·unfold Rep at q1
   obtain⟨l,xs,rfl,hq,rq⟩:=q1
   cases (show v=Value.ref l from r1)
   have hq:=st1.gh.seqT hq
   obtain⟨its,rv,pl,_⟩:=I1.tuple hq
   obtain⟨ob,e1,e2,n,e4⟩:=pl
   refine⟨"tuple",_,PySem.F.plainAttrs_tuple,PySem.F.slot_tuple_count,PySem.F.type_tuple_count,⟨ob,e1,e2⟩,fun a' ea=>by cases ea;obtain⟨ob',z1,z2⟩:=I1.tupleN hq;exact⟨ob',z1,z2⟩, ?_⟩
   rw [hs]
   refine Calls.callWith_builtin rfl (Calls.evalArgs_plain (Calls.spliced_cons (L2.thn (ha.thn I1 st1.gh (hS.step st1) hx k1) fun u s2 ⟨w,y,G2,H2,I2,r2,st2,q2,k2⟩=>Calls.spliced_nil ?_)))
   have k':RK X.K ad G2 H2 (if inOk y ds then .ok (.int ((ds.countP fun z=>deq z y):Nat)) else .bad) Q E:=k2
   by_cases hc:inOk y ds=true
   ·rw [if_pos hc] at k'
    obtain⟨its,rv,⟨⟨cls,dd,data,sl⟩,e1,e2,n,e4⟩,_⟩:=I2.tuple (st2.sh.seqT hq)
    simp only at e2 e4
    subst e2 e4
    obtain⟨e,he,_,hcount,_⟩:=dA hu I2 st2.gh hc q2 r2 (rq.mono st2.sg) rv
    refine call_meets PySem.F.slot_tuple_count ⟨_,e1,rfl⟩ PySem.F.entry_tuple_count (PySem.F.args_tuple_count_2 _ _) (SeqAt.tuple_countAt l its.toArray n dd sl u e) ⟨e1,he, ?_⟩
    refine⟨.int _,H2,I2.tok _,⟨_,rfl⟩, ?_⟩
    rw [←hcount] at k'
    exact k'.ok_now st2.gh aD
   ·rw [if_neg hc] at k'
    exact k'.elim
  ·cases z
 | _=>exact False.elim k1
theorem aBq (hu:X.A.units+62<cLine) (ho:ML X ad o f) (ha:ME X ad a g) (hs:starEach [a] X.env=(false,eval a X.env)::starEach [] X.env) (hbase:attributeBase o "index" X.env (eval o X.env)=eval o X.env) (hline:(ap.endLine==cp.line)=true):
  ME X ad (.Call (.Attribute o "index" ap) [a] [] cp) (rIdx f g):=by
 intro pins s σ H Q I ⟨G,ρ,E,hG,hS,hx,hr⟩
 refine wpAny_Call_method_late hbase (cI hs) hline rfl (L2.thn (ho.lk pins s σ H G ρ _ Q E I hG hS hx hr) fun v s1 hz_=> ?_)
 obtain⟨x,d,G1,H1,I1,r1,st1,q1,k1⟩:=hz_
 cases d with
 | tup ds=>
  rcases q1 with q1 | ⟨_,_,_,z,_⟩
  ·unfold Rep at q1
   obtain⟨l,xs,rfl,hq,rq⟩:=q1
   cases (show v=Value.ref l from r1)
   have hq:=st1.gh.seqT hq
   obtain⟨its,rv,pl,_⟩:=I1.tuple hq
   obtain⟨ob,e1,e2,n,e4⟩:=pl
   refine⟨"tuple",_,PySem.F.plainAttrs_tuple,PySem.F.slot_tuple_index,PySem.F.type_tuple_index,⟨ob,e1,e2⟩,fun a' ea=>by cases ea;obtain⟨ob',z1,z2⟩:=I1.tupleN hq;exact⟨ob',z1,z2⟩, ?_⟩
   rw [hs]
   refine Calls.callWith_builtin rfl (Calls.evalArgs_plain (Calls.spliced_cons (L2.thn (ha.thn I1 st1.gh (hS.step st1) hx k1) fun u s2 ⟨w,y,G2,H2,I2,r2,st2,q2,k2⟩=>Calls.spliced_nil ?_)))
   have k':RK X.K ad G2 H2 (if inOk y ds then(match ds.findIdx? fun z=>deq z y with | some k=> .ok (.int (k:Nat)) | none=> .bad) else .bad) Q E:=k2
   by_cases hc:inOk y ds=true
   ·rw [if_pos hc] at k'
    obtain⟨its,rv,⟨⟨cls,dd,data,sl⟩,e1,e2,n,e4⟩,_⟩:=I2.tuple (st2.sh.seqT hq)
    simp only at e2 e4
    subst e2 e4
    obtain⟨e,he,_,_,hfind⟩:=dA hu I2 st2.gh hc q2 r2 (rq.mono st2.sg) rv
    cases hf:ds.findIdx? fun z=>deq z y with
    | none=>rw [hf] at k';exact k'.elim
    | some j=>
     rw [hf] at k' hfind
     obtain⟨hj,hit,hno⟩:=List.findIdx?_eq_some_iff_getElem.mp hfind
     refine call_meets PySem.F.slot_tuple_index ⟨_,e1,rfl⟩ PySem.F.entry_tuple_index (PySem.F.args_tuple_index_2 _ _) (gS l its.toArray n dd sl u e j (by simpa using hj) (by simpa using hit) (fun m hm hlt=>by simpa using hno m hlt)) ⟨e1,he, ?_⟩
     exact⟨.int _,H2,I2.tok _,⟨_,rfl⟩,k'.ok_now st2.gh aD⟩
   ·rw [if_neg hc] at k'
    exact k'.elim
  ·cases z
 | _=>exact False.elim k1
end
noncomputable def tab (m mv:Nat) (ps:List Nat):SetTable:={ mask:=m,place:=ps.toArray,dummies:= #[],finger:=0,led:=true,moves:=mv,plain:=true }
section
variable {prog:Program} {w:World} {A:Around} {E:Value→Shared→Prop} {s:Shared}
end
section
variable {prog:Program} {w:World} {A:Around} {E:Value→Shared→Prop} {s:Shared}
noncomputable def ddS (acc:List Nat) (n:Nat):List Nat:=if n∈acc then acc else n::acc
noncomputable def dd (ns:List Nat):List Nat:=ns.foldl ddS []
end
section
variable {prog:Program} {w:World} {A:Around} {E:Value→Shared→Prop} {s:Shared}
end
section
variable {prog:Program} {w:World} {A:Around} {E:Value→Shared→Prop} {s:Shared}
end
section
variable {prog:Program} {w:World} {A:Around} {E:Value→Shared→Prop} {s:Shared}
end
section
variable {prog:Program} {w:World} {A:Around} {E:Value→Shared→Prop} {R:Result→Shared→Prop} {I:Addr} {fp wr:List Addr} {G:Array GenState→Array GenState→Prop} {n:Nat} {P:Nat→Value→Prop} {St:Nat→Shared→Prop}
theorem yB {i j:Int} {t u:Tok} {s:Shared} {Q:Value→Shared→Prop} (h:Q (.bool (decide (i > j))) s):wpAny (model prog w) A (richCompare .Gt (.int i t) (.int j u)) Q E s:=
 CmpOf.ints_gt (P:=fun k v=>(k=0∧v= .int i t)∨(k=1∧v= .int j u)) (fun k=>if k=0 then i else j) (fun k v hk=>by rcases hk with ⟨rfl,rfl⟩ | ⟨rfl,rfl⟩<;>exact⟨_,rfl⟩) 0 1 _ _ s Q E (.inl ⟨rfl,rfl⟩) (.inr ⟨rfl,rfl⟩) h
theorem p9 (W:WalksS prog w A.in1 I fp wr G n P St) (val:Nat→Int) (hval: ∀ i v,P i v→ ∃ t,v= .int (val i) t) (S:Addr) (hSf:S∉fp) (kw:List (Str×Value)):
  ∀ (k i:Nat) (s:Shared) (m:Int) (tm:Tok) (c:Nat),n - i=k→i≤n→St i s→s.heap.get? S=some { cls:= .type "list",dict:=none,data:= .seq #[.int m tm, .int m tm] c,slots:= #[] }→
  (∀ s' t',Moved (S::wr) G s s'→R (.ok (.ret (.int (maxL m (((List.range n).drop i).map val)) t'))) s')→codeAny (model prog w) A (.builtin "max.loop" ⟨[.ref I, .none, .ref S],kw⟩) R s:=by
 have hSw:S∉wr:=fun h=>hSf (W.sub _ h)
 have sub: ∀ b∈wr,b∈S::wr:=fun b hb=> .tail _ hb
 have hname:(toString "max"++toString ".loop":String)="max.loop":=by decide
 have notS: ∀ {b:Addr},b∉S::wr→S≠b:=fun hb h=>hb (by rw [h];exact .head _)
 intro k
 induction k with
 | zero=>
  intro i s m tm c hk hi hst hS hR
  have hin:i=n:=by omega
  subst hin
  refine codeAny_builtin PySem.F.entry_max_loop ?_
  rw [Around.under_plainId PySem.F.plain_max_loop _]
  show wpAny _ A.in1 (seqItems? (.ref S) >>= _) _ _ s
  refine wpAny_bind (wpAny_seqItems hS rfl ?_)
  show wpAny _ A.in1 (tryCatch (pyNext (.ref I)) _ >>= _) _ _ s
  refine wpAny_bind (wpAny_tryCatch (W.done s _ _ hst fun s' hm=> ?_))
  have hS':=hm.heap S _ hSw hS
  show wpAny _ A.in1 (updateSeq S (fun _=> #[]) >>= _) _ _ _
  refine wpAny_bind ?_
  refine wpAny_updateSeq hS' rfl (wpAny_bind (wpAny_letGo (wpAny_pure ?_)))
  have:=hR _ tm ((hm.mono sub).then_heap (tk:=s'.toks) (Nat.le_refl _) fun b o hb e=>(Heap.get?_update_other _ (Obj.mapSeq fun _=> #[]) (notS hb)).trans e)
  rw [List.drop_of_length_le (by simp)] at this
  exact this
 | succ k ih=>
  intro i s m tm c hk hi hst hS hR
  have hlt:i<n:=by omega
  have hd:(List.range n).drop i=i::(List.range n).drop (i+1):=by
   rw [List.drop_eq_getElem_cons (by simpa using hlt)];simp
  refine codeAny_builtin PySem.F.entry_max_loop ?_
  rw [Around.under_plainId PySem.F.plain_max_loop _]
  show wpAny _ A.in1 (seqItems? (.ref S) >>= _) _ _ s
  refine wpAny_bind (wpAny_seqItems hS rfl ?_)
  show wpAny _ A.in1 (tryCatch (pyNext (.ref I)) _ >>= _) _ _ s
  refine wpAny_bind (wpAny_tryCatch (W.item i s _ _ hlt hst fun v s' hP hst' hm=> ?_))
  obtain⟨t,rfl⟩:=hval i v hP
  have hS':=hm.heap S _ hSw hS
  show wpAny _ A.in1 (tryCatch (holding [.int (val i) t, .int (val i) t] (richCompare .Gt (.int (val i) t) (.int m tm) >>= _)) _ >>= _) _ _ _
  refine wpAny_bind (wpAny_tryCatch (wpAny_holding (wpAny_bind (yB ?_))))
  refine wpAny_bind (wpAny_holding (wpAny_truthy_bool ?_))
  refine wpAny_bind (wpAny_letGo (wpAny_pure ?_))
  by_cases hb:val i > m
  ·rw [decide_eq_true hb]
   simp only [if_true]
   refine wpAny_bind ?_
   refine wpAny_updateSeq hS' rfl (wpAny_bind (wpAny_letGo ?_))
   rw [hname]
   refine wpAny_pure ⟨plainId_quiet PySem.F.plain_max_loop _,ih (i+1) _ (val i) t _ (by omega) hlt (W.frame _ s' _ s'.toks hst' (Nat.le_refl _) fun b hbf o e=> ?_) (Heap.get?_update_self _ hS' rfl) fun s'' t' hm''=> ?_⟩
   ·exact(Heap.get?_update_other _ _ (fun h:S=b=>hSf (by rw [h];exact hbf))).trans e
   ·have:=hR s'' t' (Moved.trans W.gtrans ((hm.mono sub).then_heap (by first | exact Nat.le_refl _ | exact Nat.le_succ _ | omega) fun b o hb e=>(Heap.get?_update_other _ _ (notS hb)).trans e) hm'')
    rw [hd,List.map_cons] at this
    unfold maxL at this
    rw [if_pos (by omega)] at this
    exact this
  ·rw [decide_eq_false hb]
   simp only [Bool.false_eq_true,if_false]
   refine wpAny_bind (wpAny_letGo ?_)
   rw [hname]
   refine wpAny_pure ⟨plainId_quiet PySem.F.plain_max_loop _,ih (i+1) _ m tm _ (by omega) hlt hst' hS' fun s'' t' hm''=> ?_⟩
   have:=hR s'' t' (Moved.trans W.gtrans (hm.mono sub) hm'')
   rw [hd,List.map_cons] at this
   unfold maxL at this
   rw [if_neg (by omega)] at this
   exact this
theorem qA (a d:Value):argsOk "max" ⟨[a],[(Str.ofString "default",d)]⟩:=by unfold argsOk;kernel_rfl
theorem qB {x d:Value} {s:Shared} {Q:Value→Shared→Prop}
  (h:wpAny (model prog w) A.in1 (pyIter x) (fun it s₂=> ∃ I fp wr G n P St val,it= .ref I∧WalksS prog w A.in1 I fp wr G n P St∧St 0 s₂∧(∀ b∈fp,b<s₂.heap.objs.size)∧(∀ i v,P i v→ ∃ t,v= .int (val i) t)∧
   (n=0→ ∀ s',Moved wr G s₂ s'→Q d s')∧(0<n→ ∀ s' t',Moved wr G s₂ s'→Q (.int (maxL (val 0) (((List.range n).drop 1).map val)) t') s')) E s):
  wpAny (model prog w) A (call (.builtin "max") [x] [(Str.ofString "default",d)]) Q E s:=by
 have hname:(toString "max"++toString ".loop":String)="max.loop":=by decide
 refine wpAny_call (codeAny_call_builtin PySem.F.plain_max PySem.F.entry_max ?_)
 simp only [checkBuiltinCall,PySem.F.kind_max]
 have body:wpAny (model prog w) A.in1 (Builtin.«max» ⟨[x],[(Str.ofString "default",d)]⟩) (fun fin s'=>match fin with
   | .done f=>(match(Except.ok f:Result) with | .ok (.ret v)=>Q v s' | .ok _=>False | .error e=>E e s')
   | .again c'=>c'.quiet=true∧codeAny (model prog w) A c' (fun r s'=>match r with | .ok (.ret v)=>Q v s' | .ok _=>False | .error e=>E e s') s') E s:=by
  show wpAny _ A.in1 (Builtin.Builtins.bindParams "max" ["key","default"] 0 ⟨[],[(Str.ofString "default",d)]⟩ >>= _) _ _ s
  refine wpAny_bind (wpAny_of_eq (show Builtin.Builtins.bindParams "max" ["key","default"] 0 ⟨[],[(Str.ofString "default",d)]⟩=pure [none,some d] from rfl) ?_)
  refine wpAny_bind (wpAny_pure ?_)
  refine wpAny_bind (wpAny_mono h (fun it s₂ h₂=> ?_) fun _ _ e=>e)
  obtain⟨I,fp,wr,G,n,P,St,val,rfl,W,hst,hfp,hval,h0,h1⟩:=h₂
  refine wpAny_bind (wpAny_newObj_type ?_)
  have hSf:s₂.heap.objs.size∉fp:=fun hm=>Nat.lt_irrefl _ (hfp _ hm)
  have hSw:s₂.heap.objs.size∉wr:=fun h=>hSf (W.sub _ h)
  have sub: ∀ b∈wr,b∈s₂.heap.objs.size::wr:=fun b hb=> .tail _ hb
  have notS: ∀ {b:Addr},b∉s₂.heap.objs.size::wr→s₂.heap.objs.size≠b:=fun hb h=>hb (by rw [h];exact .head _)
  have hst1:=W.frame 0 s₂ (s₂.heap.push { cls:= .type "list",data:= .seq ([]:List Value).toArray }) s₂.toks hst (Nat.le_refl _) fun b _ o e=>Heap.get?_push_of_some _ e
  have hS:(s₂.heap.push { cls:= .type "list",data:= .seq ([]:List Value).toArray }).get? s₂.heap.objs.size=some { cls:= .type "list",data:= .seq ([]:List Value).toArray }:=Heap.get?_push_size _ rfl
  rw [hname]
  refine wpAny_pure ⟨plainId_quiet PySem.F.plain_max_loop _,codeAny_builtin PySem.F.entry_max_loop ?_⟩
  rw [Around.under_plainId PySem.F.plain_max_loop _]
  show wpAny _ A.in1 (seqItems? (.ref s₂.heap.objs.size) >>= _) _ _ _
  refine wpAny_bind (wpAny_seqItems hS rfl ?_)
  show wpAny _ A.in1 (tryCatch (pyNext (.ref I)) _ >>= _) _ _ _
  rcases Nat.eq_zero_or_pos n with z | z
  ·refine wpAny_bind (wpAny_tryCatch (W.done _ _ _ (by rw [z];exact hst1) fun s' hm=> ?_))
   show wpAny _ A.in1 (rule _ >>= fun _=>ret d) _ _ _
   exact wpAny_bind (wpAny_rule (wpAny_pure (h0 z s' (Moved.drop_new (tk:=s₂.toks) (hm.mono sub) (Nat.le_refl _)))))
  ·refine wpAny_bind (wpAny_tryCatch (W.item 0 _ _ _ z hst1 fun v s' hP hst' hm=> ?_))
   obtain⟨t,rfl⟩:=hval 0 v hP
   have hS':=hm.heap _ _ hSw hS
   show wpAny _ A.in1 (updateSeq s₂.heap.objs.size (fun _=> #[.int (val 0) t, .int (val 0) t]) >>= _) _ _ _
   refine wpAny_bind ?_
   refine wpAny_updateSeq hS' rfl ?_
   rw [hname]
   refine wpAny_pure ⟨plainId_quiet PySem.F.plain_max_loop _,p9 W val hval s₂.heap.objs.size hSf _ _ 1 _ (val 0) t _ rfl z (W.frame _ s' _ s'.toks hst' (Nat.le_refl _) fun b hbf o e=> ?_) (Heap.get?_update_self _ hS' rfl) fun s'' t' hm''=> ?_⟩
   ·exact(Heap.get?_update_other _ _ (fun h:s₂.heap.objs.size=b=>hSf (by rw [h];exact hbf))).trans e
   ·exact h1 z s'' t' (Moved.drop_new (tk:=s₂.toks) (Moved.trans W.gtrans ((hm.mono sub).then_heap (by first | exact Nat.le_refl _ | exact Nat.le_succ _ | omega) fun b o hb e=>(Heap.get?_update_other _ _ (notS hb)).trans e) hm'') (Nat.le_refl _))
 cases hsig:Manifest.signature? "max" with
 | none=>exact wpAny_pure body
 | some sig=>
  have ha':Bind.checkArgs "max" sig ⟨[x],[(Str.ofString "default",d)]⟩=pure ():=by
   have:=qA x d
   simpa only [argsOk,hsig] using this
  simp only [ha']
  exact wpAny_pure body
end
noncomputable def tbl (m mv:Nat) (led:Bool) (ps:List Nat):SetTable:={ mask:=m,place:=ps.toArray,dummies:= #[],finger:=0,led:=led,moves:=mv,plain:=true }
noncomputable def adv (m:Nat) (p:SetTable.Probe):SetTable.Probe:=(tab m 0 []).advance p
noncomputable def pr (m:Nat) (h:Int):Nat→SetTable.Probe
 | 0=>(tab m 0 []).probeStart h
 | k+1=>adv m (pr m h k)
noncomputable def lp (m:Nat) (h:Int):Nat→Nat×Nat
 | 0=>(SetTable.bits h % (m+1),SetTable.bits h)
 | r+1=>SetTable.leap m (lp m h r).1 (lp m h r).2
def Rch (m:Nat) (h:Int) (ps:List Nat) (p:Nat):Prop:= ∃ k,k<10 * SetTable.turns m∧(pr m h k).j=p∧ ∀ b,b<k→(pr m h b).j∈ps
structure TI (m:Nat) (L:List (Nat×Int×Value)):Prop where
 up:(L.map (·.1)).Pairwise (· < ·)
 le: ∀ x∈L,x.1≤m
 rch: ∀ x∈L,Rch m x.2.1 (L.map (·.1)) x.1
mutual
noncomputable def hk:PyData→Bool
 | .none=>true
 | .int _=>true
 | .tuple xs=>hks xs
 | _=>false
noncomputable def hks:List PyData→Bool
 | []=>true
 | x::xs=>hk x&&hks xs
end
mutual
noncomputable def hsh:PyData→Int
 | .none=>0xFCA86420
 | .int i=>hashInt i
 | .tuple xs=>reduceHash (Builtin.Tuple.tupleHashOf (hshs xs))
 | _=>0
noncomputable def hshs:List PyData→List Int
 | []=>[]
 | x::xs=>hsh x::hshs xs
end
mutual
theorem l8: ∀ d:PyData,hk d=true→d.canLay0=true
 | .none,_=>rfl
 | .int _,_=>rfl
 | .tuple xs,h=>by
  rw [hk] at h
  rw [PyData.canLay0]
  exact qC xs h
 | .bool _,h=>by simp [hk] at h
 | .str _,h=>by simp [hk] at h
 | .list _,h=>by simp [hk] at h
 | .dict _,h=>by simp [hk] at h
theorem qC: ∀ xs:List PyData,hks xs=true→PyData.canLayAll0 xs=true
 | [],_=>rfl
 | x::xs,h=>by
  rw [hks,Bool.and_eq_true] at h
  rw [PyData.canLayAll0,l8 x h.1,qC xs h.2]
  rfl
end
mutual
theorem kQ: ∀ d1 d2:PyData,hk d1=true→hk d2=true→PyData.eqv d1 d2=true→d1=d2
 | .none,d2,_,h2,e=>by cases d2<;>simp [hk] at h2<;>simp [PyData.eqv] at e ⊢
 | .int i,d2,_,h2,e=>by cases d2<;>simp [hk] at h2<;>simp [PyData.eqv] at e ⊢<;>exact e
 | .tuple xs,d2,h1,h2,e=>by
  cases d2<;>simp [hk] at h2<;>simp [PyData.eqv] at e
  rename_i ys
  rw [l9 xs ys (by simpa [hk] using h1) h2 e]
 | .bool _,_,h,_,_=>by simp [hk] at h
 | .str _,_,h,_,_=>by simp [hk] at h
 | .list _,_,h,_,_=>by simp [hk] at h
 | .dict _,_,h,_,_=>by simp [hk] at h
theorem l9: ∀ xs ys:List PyData,hks xs=true→hks ys=true→PyData.eqvAll xs ys=true→xs=ys
 | [],[],_,_,_=>rfl
 | [],_::_,_,_,e=>by simp [PyData.eqvAll] at e
 | _::_,[],_,_,e=>by simp [PyData.eqvAll] at e
 | x::xs,y::ys,h1,h2,e=>by
  rw [hks,Bool.and_eq_true] at h1 h2
  rw [PyData.eqvAll,Bool.and_eq_true] at e
  rw [kQ x y h1.1 h2.1 e.1,l9 xs ys h1.2 h2.2 e.2]
end
section
variable {prog:Program} {w:World}
theorem i9 {A:Around} {s:Shared} {Q:Int→Shared→Prop} {E:Value→Shared→Prop} (h:Q 0xFCA86420 { s with toks:=s.toks+1 }):wpAny (model prog w) A (pyHash .none) Q E s:=by
 have hT:s.TypeIs .none "NoneType":=rfl
 unfold pyHash pyHashByItsType
 refine wpAny_bind (wpAny_cRoomFor_or (.inl rfl) ?_)
 refine wpAny_bind (wpAny_specialOf hT F.slot_NoneType_hash.lookup ?_)
 show wpAny _ _ (if(some (Value.builtin "NoneType.__hash__")==some Value.none)=true then _ else _) Q E s
 rw [if_neg (by rw [beq_builtin_none];exact Bool.false_ne_true)]
 refine wpAny_bind (wpAny_specialOf hT F.slot_NoneType_hash.lookup ?_)
 show wpAny _ _ (callSpecialIfBoundUnlessNone? .none "__hash__" _ >>= _) Q E s
 refine wpAny_bind (wpAny_callSpecialIfBoundUnlessNone?_slot hT F.slot_NoneType_hash (wpAny_call_entry F.slot_NoneType_hash hT F.entry_NoneType_hash ?_ (F.args_NoneType_hash_1 _)))
 show wpAny _ _ (retInt 0xFCA86420) _ _ s
 refine wpAny_ret_mkInt ?_
 exact wpAny_pure h
mutual
noncomputable def dr:PyData→Nat
 | .tuple xs=>drs xs+1
 | _=>1
noncomputable def drs:List PyData→Nat
 | []=>0
 | x::xs=>dr x+drs xs
end
theorem yC: ∀ (n:Nat) (d:PyData) (v:Value) (as:List Addr) (A:Around) (s:Shared) (Q:Int→Shared→Prop) (E:Value→Shared→Prop),hk d=true→d.depth≤n→Reads s.heap v d as→A.units+n<cLine→Q (hsh d) { s with toks:=s.toks+dr d }→wpAny (model prog w) A (pyHash v) Q E s:=by
 intro n
 induction n with
 | zero=>
  intro d v as A s Q E hd hn hr hu h
  cases hr with
  | none=>exact i9 (by simpa [hsh,dr] using h)
  | int i t=>exact wpAny_pyHash_int (by simpa [hsh,dr] using h)
  | bool b=>cases hd
  | str x t=>cases hd
  | list=>cases hd
  | tuple=>simp [PyData.depth] at hn
  | dict=>cases hd
 | succ n ih=>
  intro d v as A s Q E hd hn hr hu h
  cases hr with
  | none=>exact i9 (by simpa [hsh,dr] using h)
  | int i t=>exact wpAny_pyHash_int (by simpa [hsh,dr] using h)
  | bool b=>cases hd
  | str x t=>cases hd
  | list=>cases hd
  | dict=>cases hd
  | @tuple a o vs k xs as ho hc hdat hall=>
   have hT:s.TypeIs (.ref a) "tuple":=⟨o,ho,hc⟩
   have hd':hks xs=true:=by simpa [hk] using hd
   have hn':PyData.depthAll xs≤n:=by simp only [PyData.depth] at hn;omega
   unfold pyHash
   unfold pyHashByItsType
   refine wpAny_bind (wpAny_cRoomFor_or (.inr (by omega)) ?_)
   refine wpAny_bind (wpAny_specialOf hT F.slot_tuple_hash.lookup ?_)
   show wpAny _ _ (if(some (Value.builtin "tuple.__hash__")==some Value.none)=true then _ else _) Q E s
   rw [if_neg (by rw [beq_builtin_none];exact Bool.false_ne_true)]
   refine wpAny_bind (wpAny_specialOf hT F.slot_tuple_hash.lookup ?_)
   show wpAny _ _ (callSpecialIfBoundUnlessNone? (.ref a) "__hash__" _ >>= _) Q E s
   refine wpAny_bind (wpAny_callSpecialIfBoundUnlessNone?_slot hT F.slot_tuple_hash (wpAny_call_entry F.slot_tuple_hash hT F.entry_tuple_hash ?_ (F.args_tuple_hash_1 _)))
   show wpAny _ _ (Builtin.Tuple.tupleItemsOf (.ref a) >>= _) _ _ s
   refine wpAny_bind (wpAny_tupleItemsOf ho hdat ?_)
   refine wpAny_bind ?_
   rw [←Array.forIn_toList]
   refine wpAny_forIn_list _
    (fun rest (b:Array Int) s'=> ∃ ds bs tk,ReadsAll s.heap rest ds bs∧hks ds=true∧PyData.depthAll ds≤n∧hshs xs=b.toList++hshs ds∧s.toks+drs xs=tk+drs ds∧s'={ s with toks:=tk })
    _ ?_ ?_ _ _ ⟨xs,as,s.toks,hall,hd',hn',rfl,rfl,rfl⟩
   ·rintro x rest b s' ⟨ds,bs,tk,hra,k1,k2,k3,k4,rfl⟩
    cases hra with
    | @cons _ _ d1 ds1 as1 bs1 r1 r2=>
     simp only [hks,Bool.and_eq_true] at k1
     simp only [PyData.depthAll] at k2
     refine wpAny_bind (ih d1 x as1 _ _ _ _ k1.1 (by omega) r1 (by have:=A.in1_units;omega) ?_)
     have k5:s.toks+drs xs=tk+dr d1+drs ds1:=by rw [k4];simp only [drs];omega
     first
      | exact wpAny_pure ⟨ds1,bs1,_,r2,k1.2,by omega,by rw [k3];simp [hshs],k5,rfl⟩
      | exact wpAny_bind (wpAny_pure (wpAny_pure ⟨ds1,bs1,_,r2,k1.2,by omega,by rw [k3];simp [hshs],k5,rfl⟩))
   ·rintro b s' ⟨ds,bs,tk,hra,k1,k2,k3,k4,rfl⟩
    cases hra
    simp only [hshs,List.append_nil] at k3
    have h':=h
    simp only [hsh,k3,dr,show s.toks+(drs xs+1)=tk+1 from by simp only [drs] at k4;omega] at h'
    show wpAny _ _ (retInt (Builtin.Tuple.tupleHashOf b.toList)) _ _ _
    refine wpAny_ret_mkInt ?_
    show wpAny _ _ (if(decide (-(2:Int) ^ 63≤Builtin.Tuple.tupleHashOf b.toList)&&decide (Builtin.Tuple.tupleHashOf b.toList<2 ^ 63))=true then _ else _) Q E _
    unfold reduceHash at h'
    by_cases hr:(decide (-(2:Int) ^ 63≤Builtin.Tuple.tupleHashOf b.toList)&&decide (Builtin.Tuple.tupleHashOf b.toList<2 ^ 63))=true
    ·rw [if_pos hr]
     rw [if_pos hr] at h'
     exact wpAny_pure h'
    ·rw [if_neg hr]
     rw [if_neg hr] at h'
     exact wpAny_bind (wpAny_rule (wpAny_pure h'))
theorem tY: ∀ (n:Nat) (d:PyData) (v:Value) (as:List Addr) (A:Around) (s:Shared) (Q:Bool→Shared→Prop) (E:Value→Shared→Prop),hk d=true→d.depth≤n→Reads s.heap v d as→Q true s→wpAny (model prog w) A (eqIsQuiet n v) Q E s:=by
 intro n
 induction n with
 | zero=>
  intro d v as A s Q E hd hn hr h
  cases hr with
  | tuple=>simp [PyData.depth] at hn
  | none=>rw [eqIsQuiet_byValue _ rfl];exact wpAny_pure h
  | int i t=>rw [eqIsQuiet_byValue _ rfl];exact wpAny_pure h
  | bool b=>cases hd
  | str x t=>cases hd
  | list=>cases hd
  | dict=>cases hd
 | succ n ih=>
  intro d v as A s Q E hd hn hr h
  cases hr with
  | none=>rw [eqIsQuiet_byValue _ rfl];exact wpAny_pure h
  | int i t=>rw [eqIsQuiet_byValue _ rfl];exact wpAny_pure h
  | bool b=>cases hd
  | str x t=>cases hd
  | list=>cases hd
  | dict=>cases hd
  | @tuple a o vs k xs as ho hc hdat hall=>
   have hT:s.TypeIs (.ref a) "tuple":=⟨o,ho,hc⟩
   have hd':hks xs=true:=by simpa [hk] using hd
   have hn':PyData.depthAll xs≤n:=by simp only [PyData.depth] at hn;omega
   unfold eqIsQuiet
   refine wpAny_bind (wpAny_specialOf hT F.slot_tuple_eq.lookup ?_)
   show wpAny _ _ (isInstance (.ref a) (.type "tuple") >>= _) _ _ s
   refine wpAny_bind (wpAny_isInstance hT isSubtype_tuple_tuple ?_)
   simp only [Bool.not_true,Bool.false_eq_true,if_false]
   refine wpAny_bind (wpAny_seqItems ho hdat ?_)
   refine wpAny_bind ?_
   show wpAny _ _ (forIn vs _ _) _ _ s
   rw [←Array.forIn_toList]
   refine wpAny_forIn_list _ (fun rest r s'=>r.1=none∧s'=s∧ ∃ ds bs,ReadsAll s.heap rest ds bs∧hks ds=true∧PyData.depthAll ds≤n) _ ?_ ?_ _ _ ⟨rfl,rfl,xs,as,hall,hd',hn'⟩
   ·rintro x rest r s' ⟨hr,rfl,ds,bs,hra,k1,k2⟩
    cases hra with
    | @cons _ _ d1 ds1 as1 bs1 r1 r2=>
     simp only [hks,Bool.and_eq_true] at k1
     simp only [PyData.depthAll] at k2
     refine wpAny_bind (ih d1 x as1 _ _ _ _ k1.1 (by omega) r1 ?_)
     simp only [Bool.not_true,Bool.false_eq_true,if_false]
     exact wpAny_pure ⟨rfl,rfl,ds1,bs1,r2,k1.2,by omega⟩
   ·rintro⟨r1,r2⟩ s' ⟨hr,rfl,_⟩
    simp only at hr
    subst hr
    exact wpAny_pure h
end
section
variable {prog:Program} {w:World} {A:Around} {E:Value→Shared→Prop} {s:Shared}
end
def Key (h:Heap) (d:PyData) (v:Value):Prop:=(∃ b,v= .ref b)∧hk d=true∧d.depth≤8∧ ∃ as,Reads h v d as
section
variable {prog:Program} {w:World} {A:Around} {E:Value→Shared→Prop} {s:Shared}
end
mutual
theorem dB: ∀ {x y:D},same x y=true→(flat x).length=(flat y).length
 | .int _,y,h=>by cases y<;>simp [same] at h;rfl
 | .tup xs,y,h=>by
  cases y<;>simp [same] at h
  simp only [flat];exact jA h
 | .non,_,h=>by simp [same] at h
 | .bl _,_,h=>by simp [same] at h
 | .str _,_,h=>by simp [same] at h
 | .lst _,_,h=>by simp [same] at h
 | .exc _,_,h=>by simp [same] at h
 | .fn _,_,h=>by simp [same] at h
theorem jA: ∀ {xs ys:List D},sames xs ys=true→(flats xs).length=(flats ys).length
 | [],[],_=>rfl
 | [],_::_,h=>by simp [sames] at h
 | _::_,[],h=>by simp [sames] at h
 | x::xs,y::ys,h=>by
  simp only [sames,Bool.and_eq_true] at h
  simp only [flats,List.length_append,dB h.1,jA h.2]
end
mutual
theorem mB: ∀ {x y:D},same x y=true→flat x=flat y→x=y
 | .int _,y,h,e=>by cases y<;>simp [same] at h;simpa [flat] using e
 | .tup xs,y,h,e=>by
  cases y<;>simp [same] at h
  simp only [flat] at e
  rw [jB h e]
 | .non,_,h,_=>by simp [same] at h
 | .bl _,_,h,_=>by simp [same] at h
 | .str _,_,h,_=>by simp [same] at h
 | .lst _,_,h,_=>by simp [same] at h
 | .exc _,_,h,_=>by simp [same] at h
 | .fn _,_,h,_=>by simp [same] at h
theorem jB: ∀ {xs ys:List D},sames xs ys=true→flats xs=flats ys→xs=ys
 | [],[],_,_=>rfl
 | [],_::_,h,_=>by simp [sames] at h
 | _::_,[],h,_=>by simp [sames] at h
 | x::xs,y::ys,h,e=>by
  simp only [sames,Bool.and_eq_true] at h
  simp only [flats] at e
  obtain⟨e1,e2⟩:=List.append_inj e (dB h.1)
  rw [mB h.1 e1,jB h.2 e2]
end
mutual
theorem gT: ∀ {x y:D},same x y=true→deq x y=(flat x==flat y)
 | .int i,y,h=>by
  cases y<;>simp [same] at h
  simp [deq,flat]
 | .tup xs,y,h=>by
  cases y<;>simp [same] at h
  simp only [deq,flat];exact jC h
 | .non,_,h=>by simp [same] at h
 | .bl _,_,h=>by simp [same] at h
 | .str _,_,h=>by simp [same] at h
 | .lst _,_,h=>by simp [same] at h
 | .exc _,_,h=>by simp [same] at h
 | .fn _,_,h=>by simp [same] at h
theorem jC: ∀ {xs ys:List D},sames xs ys=true→deqs xs ys=(flats xs==flats ys)
 | [],[],_=>rfl
 | [],_::_,h=>by simp [sames] at h
 | _::_,[],h=>by simp [sames] at h
 | x::xs,y::ys,h=>by
  simp only [sames,Bool.and_eq_true] at h
  simp only [deqs,flats,gT h.1,jC h.2]
  rw [Bool.eq_iff_iff]
  simp only [Bool.and_eq_true,beq_iff_eq]
  constructor
  ·rintro⟨a,b⟩;rw [a,b]
  ·intro e;exact List.append_inj e (dB h.1)
end
mutual
theorem gU: ∀ {x:D},same x x=true→hk (toPy x)=true
 | .int _,_=>by simp [toPy,hk]
 | .tup xs,h=>by
  simp only [toPy,hk];exact mC (by simpa [same] using h)
 | .non,h=>by simp [same] at h
 | .bl _,h=>by simp [same] at h
 | .str _,h=>by simp [same] at h
 | .lst _,h=>by simp [same] at h
 | .exc _,h=>by simp [same] at h
 | .fn _,h=>by simp [same] at h
theorem mC: ∀ {xs:List D},sames xs xs=true→hks (toPys xs)=true
 | [],_=>by simp [toPys,hks]
 | x::xs,h=>by
  simp only [sames,Bool.and_eq_true] at h
  simp [toPys,hks,gU h.1,mC h.2]
end
mutual
theorem bF: ∀ {x:D},same x x=true→plain x=true
 | .int _,_=>by simp [plain]
 | .tup xs,h=>by
  simp only [plain];exact eU (by simpa [same] using h)
 | .non,h=>by simp [same] at h
 | .bl _,h=>by simp [same] at h
 | .str _,h=>by simp [same] at h
 | .lst _,h=>by simp [same] at h
 | .exc _,h=>by simp [same] at h
 | .fn _,h=>by simp [same] at h
theorem eU: ∀ {xs:List D},sames xs xs=true→plains xs=true
 | [],_=>by simp [plains]
 | x::xs,h=>by
  simp only [sames,Bool.and_eq_true] at h
  simp [plains,bF h.1,eU h.2]
end
mutual
theorem mD: ∀ {x y:D},same x y=true→same y y=true∧same x x=true∧dep y=dep x
 | .int _,y,h=>by cases y<;>simp [same] at h;simp [same,dep]
 | .tup xs,y,h=>by
  cases y<;>simp [same] at h
  simp only [same,dep]
  have:=qE h
  exact⟨this.1,this.2.1,by rw [this.2.2]⟩
 | .non,_,h=>by simp [same] at h
 | .bl _,_,h=>by simp [same] at h
 | .str _,_,h=>by simp [same] at h
 | .lst _,_,h=>by simp [same] at h
 | .exc _,_,h=>by simp [same] at h
 | .fn _,_,h=>by simp [same] at h
theorem qE: ∀ {xs ys:List D},sames xs ys=true→sames ys ys=true∧sames xs xs=true∧deps ys=deps xs
 | [],[],_=>⟨rfl,rfl,rfl⟩
 | [],_::_,h=>by simp [sames] at h
 | _::_,[],h=>by simp [sames] at h
 | x::xs,y::ys,h=>by
  simp only [sames,Bool.and_eq_true] at h
  have a:=mD h.1
  have b:=qE h.2
  simp only [sames,deps,a.1,b.1,a.2.1,b.2.1,a.2.2,b.2.2,Bool.and_self,and_self]
end
mutual
theorem qF: ∀ {x y z:D},same x y=true→same x z=true→same y z=true
 | .int _,y,z,h,k=>by cases y<;>simp [same] at h;cases z<;>simp [same] at k;rfl
 | .tup xs,y,z,h,k=>by
  cases y<;>simp [same] at h
  cases z<;>simp [same] at k
  simp only [same];exact mE h k
 | .non,_,_,h,_=>by simp [same] at h
 | .bl _,_,_,h,_=>by simp [same] at h
 | .str _,_,_,h,_=>by simp [same] at h
 | .lst _,_,_,h,_=>by simp [same] at h
 | .exc _,_,_,h,_=>by simp [same] at h
 | .fn _,_,_,h,_=>by simp [same] at h
theorem mE: ∀ {xs ys zs:List D},sames xs ys=true→sames xs zs=true→sames ys zs=true
 | [],[],[],_,_=>rfl
 | [],_::_,_,h,_=>by simp [sames] at h
 | [],[],_::_,_,h=>by simp [sames] at h
 | _::_,[],_,h,_=>by simp [sames] at h
 | _::_,_::_,[],_,h=>by simp [sames] at h
 | x::xs,y::ys,z::zs,h,k=>by
  simp only [sames,Bool.and_eq_true] at h k ⊢
  exact⟨qF h.1 k.1,mE h.2 k.2⟩
end
theorem gW: ∀ {a b:List Int} {r t:List Int},a.length=b.length→lexB (a++r) (b++t)=if a=b then lexB r t else lexB a b
 | [],[],_,_,_=>by simp
 | [],_::_,_,_,h=>by simp at h
 | _::_,[],_,_,h=>by simp at h
 | x::a,y::b,r,t,h=>by
  have ih:=gW (a:=a) (b:=b) (r:=r) (t:=t) (by simpa using h)
  simp only [List.cons_append,lexB]
  by_cases e:x=y
  ·subst e
   simp only [↓reduceIte,ih,List.cons.injEq,true_and]
  ·simp [e]
theorem fU: ∀ {xs ys:List D},sames xs ys=true→xs.length=ys.length
 | [],[],_=>rfl
 | [],_::_,h=>by simp [sames] at h
 | _::_,[],h=>by simp [sames] at h
 | x::xs,y::ys,h=>by
  simp only [sames,Bool.and_eq_true] at h
  simp [fU h.2]
section
variable {prog:Program} {w:World}
theorem aBr: ∀ (n:Nat) (x y:D) (u v:Value) (as bs:List Addr) (A:Around) (s:Shared) (Q:Value→Shared→Prop) (E:Value→Shared→Prop),same x y=true→dep x≤n→Reads s.heap u (toPy x) as→Reads s.heap v (toPy y) bs→A.units+n<cLine→Q (.bool (ltD x y)) s→wpAny (model prog w) A (richCompare .Lt u v) Q E s:=by
 intro n
 have hint: ∀ (i j:Int) (u v:Value) (as bs:List Addr) (A:Around) (s:Shared) (Q:Value→Shared→Prop) (E:Value→Shared→Prop),Reads s.heap u (toPy (.int i)) as→Reads s.heap v (toPy (.int j)) bs→Q (.bool (ltD (.int i) (.int j))) s→wpAny (model prog w) A (richCompare .Lt u v) Q E s:=by
  intro i j u v as bs A s Q E r1 r2 h
  simp only [toPy] at r1 r2
  cases r1
  cases r2
  have e:ltD (.int i) (.int j)=decide (i<j):=by
   unfold ltD flat lexB
   by_cases z:i=j
   ·subst z;simp [lexB]
   ·simp [z]
  rw [e] at h
  exact wpAny_lt_int h
 induction n with
 | zero=>
  intro x y u v as bs A s Q E hs hn r1 r2 hu h
  cases x<;>try (simp [same] at hs;done)
  ·cases y<;>simp [same] at hs
   exact hint _ _ u v as bs A s Q E r1 r2 h
  ·simp [dep] at hn
 | succ n ih=>
  intro x y u v as bs A s Q E hs hn r1 r2 hu h
  cases x<;>try (simp [same] at hs;done)
  ·cases y<;>simp [same] at hs
   exact hint _ _ u v as bs A s Q E r1 r2 h
  ·rename_i xs
   cases y<;>simp [same] at hs
   rename_i ys
   simp only [dep] at hn
   have h':Q (.bool (lexB (flats xs) (flats ys))) s:=by
    have:ltD (.tup xs) (.tup ys)=lexB (flats xs) (flats ys):=by simp [ltD,flat]
    rw [←this];exact h
   simp only [toPy] at r1 r2
   cases r1 with
   | @tuple a oa us na _ as1 ho1 hc1 hd1 ra=>
    cases r2 with
    | @tuple b ob vs nb _ bs1 ho2 hc2 hd2 rb=>
     have hT1:s.TypeIs (.ref a) "tuple":=⟨oa,ho1,hc1⟩
     have hT2:s.TypeIs (.ref b) "tuple":=⟨ob,ho2,hc2⟩
     refine wpAny_richCompare_same_room (op:= .Lt) hT1 hT2 PySem.F.slot_tuple_lt (wpAny_call_entry PySem.F.slot_tuple_lt hT1 PySem.F.entry_tuple_lt ?_ (PySem.F.args_tuple_lt_2 _ _)) (by omega)
     show wpAny _ _ (isInstance (.ref b) (.type "tuple") >>= _) _ _ s
     refine wpAny_bind (wpAny_isInstance hT2 isSubtype_tuple_tuple ?_)
     simp only [Bool.not_true,Bool.false_eq_true,if_false]
     refine wpAny_bind (wpAny_tupleItemsOf ho1 hd1 ?_)
     refine wpAny_bind (wpAny_tupleItemsOf ho2 hd2 ?_)
     refine wpAny_bind ?_
     refine wpAny_forIn_list _
      (fun rest r s'=>r.1=none∧s'=s∧ ∃ xs' ys' us' vs' as' bs',rest=List.zip us' vs'∧ReadsAll s.heap us' (toPys xs') as'∧ReadsAll s.heap vs' (toPys ys') bs'∧sames xs' ys'=true∧deps xs'≤n∧lexB (flats xs') (flats ys')=lexB (flats xs) (flats ys))
      _ ?_ ?_ _ _ ⟨rfl,rfl,xs,ys,us.toList,vs.toList,as,bs,rfl,ra,rb,hs,by omega,rfl⟩
     ·rintro⟨p,q⟩ rest r s' ⟨hr,rfl,xs',ys',us',vs',as',bs',hz,ra',rb',hs',hn',hl'⟩
      cases xs' with
      | nil=>
       simp only [toPys] at ra'
       cases ra'
       simp at hz
      | cons x1 xs1=>
       cases ys' with
       | nil=>simp [sames] at hs'
       | cons y1 ys1=>
        simp only [toPys] at ra' rb'
        cases ra' with
        | @cons u1 us1 _ _ a1 a2 ru ra2=>
         cases rb' with
         | @cons v1 vs1 _ _ b1 b2 rv rb2=>
          simp only [List.zip_cons_cons,List.cons.injEq,Prod.mk.injEq] at hz
          obtain⟨⟨rfl,rfl⟩,rfl⟩:=hz
          simp only [sames,Bool.and_eq_true] at hs'
          simp only [deps] at hn'
          obtain⟨s1,s2,s3⟩:=mD hs'.1
          have p1:=bF s2
          have p2:=bF s1
          have heq:=SeqAt.eqAt_reads (toPy x1) (toPy y1) A.in1 s' p q a1 b1 ru rv (bY p1) (bY p2) (by rw [bZ,bZ];have:=A.in1_units;omega)
          rw [b8 x1 y1 p1 p2,gT hs'.1] at heq
          refine wpAny_bind (heq prog w _ _ ?_)
          simp only [flats] at hl'
          rw [gW (dB hs'.1)] at hl'
          by_cases hk:flat x1=flat y1
          ·rw [if_pos hk] at hl'
           rw [hk]
           simp only [beq_self_eq_true,Bool.not_true,Bool.false_eq_true,if_false]
           exact wpAny_pure ⟨rfl,rfl,xs1,ys1,us1,vs1,a2,b2,rfl,ra2,rb2,hs'.2,by omega,hl'⟩
          ·rw [if_neg hk] at hl'
           have e:(flat x1==flat y1)=false:=by simpa using hk
           rw [e]
           simp only [Bool.not_false,if_true]
           refine wpAny_bind (wpAny_rule (wpAny_bind (ih x1 y1 p q a1 b1 A.in1 s' _ _ hs'.1 (by omega) ru rv (by have:=A.in1_units;omega) ?_)))
           refine wpAny_bind (wpAny_pure (wpAny_pure (wpAny_pure ?_)))
           have:ltD x1 y1=lexB (flats xs) (flats ys):=hl'
           rw [this]
           exact⟨_,rfl,(fun e=>nomatch e),h'⟩
     ·rintro⟨r1,r2⟩ s' ⟨hr,rfl,xs',ys',us',vs',as',bs',hz,ra',rb',hs',hn',hl'⟩
      simp only at hr
      subst hr
      refine wpAny_pure ?_
      cases xs' with
      | cons x1 xs1=>
       cases ys' with
       | nil=>simp [sames] at hs'
       | cons y1 ys1=>
        simp only [toPys] at ra' rb'
        cases ra'
        cases rb'
        simp at hz
      | nil=>
       cases ys' with
       | cons y1 ys1=>simp [sames] at hs'
       | nil=>
        have hsz:us.size=vs.size:=by
         have l1:=SeqAt.ReadsAll.length _ _ _ ra
         have l2:=SeqAt.ReadsAll.length _ _ _ rb
         have:=fU hs
         have e1: ∀ l:List D,(toPys l).length=l.length:=fun l=>by induction l with | nil=>rfl | cons a l ih=>simp [toPys,ih]
         rw [e1] at l1 l2
         have q:us.toList.length=vs.toList.length:=by rw [l1,l2];exact this
         simpa using q
        have e:lexB (flats xs) (flats ys)=false:=by rw [←hl'];rfl
        rw [e] at h'
        refine⟨_,rfl,(fun e=>nomatch e), ?_⟩
        show Q (.bool (decide (us.size<vs.size))) s'
        rw [hsz,decide_eq_false (Nat.lt_irrefl _)]
        exact h'
end
section
variable {O:KeyOrd} {key:Nat→O.α} {n:Nat} {cmp:Nat→Nat→(Bool→Shared→Prop)→Shared→Prop} {s:Shared}
noncomputable def PK (key:Nat→O.α) (p:Array Nat) (i:Nat):O.α:=key (p.getD i 0)
def Gd (n:Nat) (p:Array Nat):Prop:=p.Perm (List.toArray (List.range n))
theorem Gd.size {p:Array Nat} (g:Gd n p):p.size=n:=by rw [Array.Perm.size_eq g];simp
theorem Gd.lt {p:Array Nat} (g:Gd n p) {i:Nat} (hi:i<n):p.getD i 0<n:=by
 have h:i<p.size:=by rw [g.size];exact hi
 have e:p.getD i 0=p[i]:=by simp [Array.getD,h]
 have m:p[i]∈p:=Array.getElem_mem h
 have:=(Array.Perm.mem_iff g).mp m
 rw [e]
 simpa using this
def Srt (key:Nat→O.α) (p:Array Nat) (m:Nat):Prop:= ∀ i j,i≤j→j<m→O.kle (PK key p i) (PK key p j)
def Fal (key:Nat→O.α) (p:Array Nat) (m:Nat):Prop:= ∀ i j,i≤j→j<m→O.kle (PK key p j) (PK key p i)
def Cm (key:Nat→O.α) (n:Nat) (cmp:Nat→Nat→(Bool→Shared→Prop)→Shared→Prop) (s:Shared):Prop:= ∀ i j (C:Bool→Shared→Prop),i<n→j<n→C (O.blt (key i) (key j)) s→cmp i j C s
theorem jD {p q:Array Nat} {i j:Nat} (h:p[i]? =q[j]?):PK key p i=PK key q j:=by
 unfold PK
 simp only [Array.getD_eq_getD_getElem?,h]
theorem jE {p:Array Nat} {i j:Nat} (hj:j≤p.size) (k:Nat):PK key (kas_rev p i j) k=if i≤k∧k<j then PK key p (i+j - 1 - k) else PK key p k:=by
 have e:=getElem?_mirror_all (i:=i) hj k
 unfold kas_rev
 split
 ·rename_i h;rw [if_pos h] at e;exact jD e
 ·rename_i h;rw [if_neg h] at e;exact jD e
theorem jF {p:Array Nat} (g:Gd n p) (i j:Nat):Gd n (kas_rev p i j):=(mirror_perm _ _ _ _).trans g
theorem vP {p:Array Nat} {k d:Nat} (hk:k<p.size) (hd:d≤k) (i:Nat):PK key (bubble p k d) i=if i=k - d then PK key p k else if k - d<i∧i≤k then PK key p (i - 1) else PK key p i:=by
 have e:=getElem?_bubble hk d hd i
 by_cases h1:i=k - d
 ·rw [if_pos h1] at e ⊢;exact jD e
 ·rw [if_neg h1] at e ⊢
  by_cases h2:k - d<i∧i≤k
  ·rw [if_pos h2] at e ⊢;exact jD e
  ·rw [if_neg h2] at e ⊢;exact jD e
theorem aBs {p:Array Nat} (g:Gd n p) (k d:Nat):Gd n (bubble p k d):=(bubble_perm _ _ _).trans g
theorem qG (hc:Cm key n cmp s) {p:Array Nat} (g:Gd n p) {G:Nat→Shared→Prop}: ∀ (f k:Nat),1≤k→k+f≤n→Srt key p k→(∀ m,k≤m→m≤k+f→Srt key p m→(m<k+f→O.klt (PK key p m) (PK key p (m - 1)))→G m s)→(kas_asc p f k).kasWp cmp G s
 | 0,k,_,_,hs,h=>h k (Nat.le_refl _) (Nat.le_refl _) hs fun z=>absurd z (Nat.lt_irrefl _)
 | f+1,k,h1,hf,hs,h=>by
  refine hc _ _ _ (g.lt (by omega)) (g.lt (by omega)) ?_
  cases hb:O.blt (key (p.getD k 0)) (key (p.getD (k - 1) 0)) with
  | true=>exact h k (Nat.le_refl _) (by omega) hs fun _=>hb
  | false=>
   refine qG hc g f (k+1) (by omega) (by omega) (fun i j hij hj=> ?_) fun m a b c d=>h m (by omega) (by omega) c fun z=>d (by omega)
   by_cases hjk:j<k
   ·exact hs i j hij hjk
   ·have:j=k:=by omega
    subst this
    by_cases hi:i=j
    ·subst hi;exact KeyOrd.kle_refl _
    ·exact KeyOrd.kle_trans (hs i (j - 1) (by omega) (by omega)) hb
theorem gX (hc:Cm key n cmp s) {G:Array Nat×Nat×Nat→Shared→Prop}: ∀ (f:Nat) (p:Array Nat) (k q:Nat),Gd n p→1≤k→k+f≤n→Fal key p k→q+1≤k→(∀ i,k - (q+1)≤i→i<k→PK key p i=PK key p (k - 1))→
  (∀ p' m q',Gd n p'→k≤m→m≤k+f→Fal key p' m→q'+1≤m→(∀ i,m - (q'+1)≤i→i<m→PK key p' i=PK key p' (m - 1))→G (p',m,q') s)→(kas_desc f p k q).kasWp cmp G s
 | 0,p,k,q,g,h1,hf,hs,hq,he,h=>h p k q g (Nat.le_refl _) (Nat.le_refl _) hs hq he
 | f+1,p,k,q,g,h1,hf,hs,hq,he,h=>by
  have gs:=g.size
  refine hc _ _ _ (g.lt (by omega)) (g.lt (by omega)) ?_
  cases hb:O.blt (key (p.getD k 0)) (key (p.getD (k - 1) 0)) with
  | true=>
   have step: ∀ p':Array Nat,(∀ i,PK key p' i=PK key p i)→Fal key p' (k+1):=fun p' hp i j hij hj=>by
    rw [hp,hp]
    by_cases hjk:j<k
    ·exact hs i j hij hjk
    ·have:j=k:=by omega
     subst this
     by_cases hi:i=j
     ·subst hi;exact KeyOrd.kle_refl _
     ·exact KeyOrd.kle_trans (KeyOrd.kle_of_klt hb) (hs i (j - 1) (by omega) (by omega))
   have same: ∀ i,PK key (kas_rev p (k - (q+1)) k) i=PK key p i:=fun i=>by
    rw [jE (by omega)]
    split
    ·rw [he _ (by omega) (by omega),he i (by omega) (by omega)]
    ·rfl
   show KasT.kasWp cmp (if true=true then(if q > 0 then kas_desc f (kas_rev p (k - (q+1)) k) (k+1) 0 else kas_desc f p (k+1) 0) else _) G s
   rw [if_pos rfl]
   split
   ·exact gX hc f _ (k+1) 0 (jF g _ _) (by omega) (by omega) (step _ same) (by omega) (fun i a b=>by rw [show i=k+1 - 1 by omega]) fun p' m q' a b c=>h p' m q' a (by omega) (by omega)
   ·exact gX hc f _ (k+1) 0 g (by omega) (by omega) (step _ fun _=>rfl) (by omega) (fun i a b=>by rw [show i=k+1 - 1 by omega]) fun p' m q' a b c=>h p' m q' a (by omega) (by omega)
  | false=>
   show KasT.kasWp cmp (if false=true then _ else KasT.ask (p.getD (k - 1) 0) (p.getD k 0) fun d=>if d=true then .ret (p,k,q) else kas_desc f p (k+1) (q+1)) G s
   rw [if_neg (by decide)]
   refine hc _ _ _ (g.lt (by omega)) (g.lt (by omega)) ?_
   cases hd:O.blt (key (p.getD (k - 1) 0)) (key (p.getD k 0)) with
   | true=>exact h p k q g (Nat.le_refl _) (by omega) hs hq he
   | false=>
    have eq:PK key p k=PK key p (k - 1):=KeyOrd.kle_antisymm hd hb
    refine gX hc f p (k+1) (q+1) g (by omega) (by omega) (fun i j hij hj=> ?_) (by omega) (fun i a b=> ?_) fun p' m q' a b c=>h p' m q' a (by omega) (by omega)
    ·by_cases hjk:j<k
     ·exact hs i j hij hjk
     ·have:j=k:=by omega
      subst this
      by_cases hi:i=j
      ·subst hi;exact KeyOrd.kle_refl _
      ·rw [eq];exact hs i (j - 1) (by omega) (by omega)
    ·rw [show k+1 - 1=k by omega]
     by_cases hi:i=k
     ·subst hi;rfl
     ·rw [eq];exact he i (by omega) (by omega)
theorem qH (hc:Cm key n cmp s) {p:Array Nat} (g:Gd n p) {k:Nat} (h1:1≤k) (hk:k≤n) (hs:Fal key p k) {G:Nat×Array Nat→Shared→Prop} (h: ∀ m p',Gd n p'→1≤m→m≤n→Srt key p' m→G (m,p') s):(kas_tail3 k n p).kasWp cmp G s:=by
 unfold kas_tail3
 rw [KasT.kasWp_bind]
 have gs:=g.size
 refine qG hc (jF g 0 k) (n - k) k h1 (by omega) (fun i j hij hj=> ?_) fun m a b c _=>h m _ (jF g 0 k) (by omega) (by omega) c
 rw [jE (by omega),jE (by omega),if_pos (by omega),if_pos (by omega)]
 exact hs _ _ (by omega) (by omega)
theorem qI (hc:Cm key n cmp s) {p:Array Nat} (g:Gd n p) {k:Nat} (hk:k+1≤n) (hs:Fal key p (k+1)) {G:Nat×Array Nat→Shared→Prop} (h: ∀ m p',Gd n p'→1≤m→m≤n→Srt key p' m→G (m,p') s):(kas_descPart k n p).kasWp cmp G s:=by
 unfold kas_descPart
 rw [KasT.kasWp_bind]
 refine gX hc _ p (k+1) 0 g (by omega) (by omega) hs (by omega) (fun i a b=>by rw [show i=k+1 - 1 by omega]) fun p' m q' g' a b f' c e=> ?_
 have gs:=g'.size
 dsimp only
 split
 ·refine qH hc (jF g' _ _) (by omega) (by omega) (fun i j hij hj=> ?_) h
  have same: ∀ i,PK key (kas_rev p' (m - (q'+1)) m) i=PK key p' i:=fun i=>by
   rw [jE (by omega)]
   split
   ·rw [e _ (by omega) (by omega),e i (by omega) (by omega)]
   ·rfl
  rw [same,same];exact f' i j hij hj
 ·exact qH hc g' (by omega) (by omega) f' h
theorem tZ (hc:Cm key n cmp s) (hn:1≤n) {p:Array Nat} (g:Gd n p) {G:Nat×Array Nat→Shared→Prop} (h: ∀ m p',Gd n p'→1≤m→m≤n→Srt key p' m→G (m,p') s):(kas_count n p).kasWp cmp G s:=by
 unfold kas_count
 rw [KasT.kasWp_bind]
 have gs:=g.size
 refine qG hc g (n - 1) 1 (Nat.le_refl _) (by omega) (fun i j hij hj=>by rw [show i=j by omega];exact KeyOrd.kle_refl _) fun m h1 h2 hs st=> ?_
 by_cases e:(m==n)=true
 ·rw [if_pos e];exact h m p g h1 (by omega) hs
 rw [if_neg e]
 have hmn:m<n:=by
  have:m≠n:=by simpa using e
  omega
 have hl:=st (by omega)
 by_cases hm:m > 1
 ·rw [if_pos hm]
  refine hc _ _ _ (g.lt (by omega)) (g.lt (by omega)) ?_
  cases hb:O.blt (key (p.getD 0 0)) (key (p.getD (m - 1) 0)) with
  | true=>exact h m p g h1 (by omega) hs
  | false=>
   -- all alike
   have eq: ∀ i,i<m→PK key p i=PK key p (m - 1):=fun i hi=>by
    have a:=hs i (m - 1) (by omega) (by omega)
    have b:O.kle (PK key p (m - 1)) (PK key p 0):=hb
    exact KeyOrd.kle_antisymm a (KeyOrd.kle_trans b (hs 0 i (Nat.zero_le _) hi))
   refine qI hc (jF g 0 m) (by omega) (fun i j hij hj=> ?_) h
   have same: ∀ i,PK key (kas_rev p 0 m) i=PK key p i:=fun i=>by
    rw [jE (by omega)]
    split
    ·rw [eq _ (by omega),eq i (by omega)]
    ·rfl
   rw [same,same]
   by_cases hjm:j<m
   ·rw [eq j hjm,eq i (by omega)];exact KeyOrd.kle_refl _
   ·have:j=m:=by omega
    subst this
    by_cases hi:i=j
    ·subst hi;exact KeyOrd.kle_refl _
    ·rw [eq i (by omega)];exact KeyOrd.kle_of_klt hl
 ·rw [if_neg hm]
  have:m=1:=by omega
  subst this
  refine qI hc g (by omega) (fun i j hij hj=> ?_) h
  by_cases hi:i=j
  ·subst hi;exact KeyOrd.kle_refl _
  ·have h0:i=0:=by omega
   have h1':j=1:=by omega
   subst h0 h1'
   exact KeyOrd.kle_of_klt hl
theorem gY (hc:Cm key n cmp s) {p:Array Nat} (g:Gd n p) {k:Nat} (hk:k<n) (hs:Srt key p k) {G:Nat→Shared→Prop}: ∀ (f l r:Nat),l≤r→r≤k→r - l≤f→(∀ i,i<l→O.kle (PK key p i) (PK key p k))→(∀ i,r≤i→i<k→O.klt (PK key p k) (PK key p i))→
  (∀ l',l'≤k→(∀ i,i<l'→O.kle (PK key p i) (PK key p k))→(∀ i,l'≤i→i<k→O.klt (PK key p k) (PK key p i))→G l' s)→(kas_place p k f l r).kasWp cmp G s
 | 0,l,r,hlr,hrk,hf,lo,hi,h=>by
  have:l=r:=by omega
  subst this
  exact h l hrk lo hi
 | f+1,l,r,hlr,hrk,hf,lo,hi,h=>by
  unfold kas_place
  split
  ·have:l=r:=by omega
   subst this
   exact h l hrk lo hi
  ·refine hc _ _ _ (g.lt (by omega)) (g.lt (by omega)) ?_
   cases hb:O.blt (key (p.getD k 0)) (key (p.getD ((l+r) / 2) 0)) with
   | true=>
    refine gY hc g hk hs f l ((l+r) / 2) (by omega) (by omega) (by omega) lo (fun i a b=> ?_) h
    exact KeyOrd.klt_of_klt_of_kle hb (hs _ _ a b)
   | false=>
    refine gY hc g hk hs f ((l+r) / 2+1) r (by omega) (by omega) (by omega) (fun i a=> ?_) hi h
    exact KeyOrd.kle_trans (hs i ((l+r) / 2) (by omega) (by omega)) hb
theorem vQ (hc:Cm key n cmp s) {G:Array Nat→Shared→Prop} (h: ∀ p',Gd n p'→Srt key p' n→G p' s): ∀ (f:Nat) (p:Array Nat) (k:Nat),Gd n p→k+f=n→Srt key p k→(kas_bin f p k).kasWp cmp G s
 | 0,p,k,g,e,hs=>by
  have:k=n:=by omega
  subst this
  exact h p g hs
 | f+1,p,k,g,e,hs=>by
  unfold kas_bin
  rw [KasT.kasWp_bind]
  have gs:=g.size
  refine gY hc g (by omega) hs k 0 k (Nat.zero_le _) (Nat.le_refl _) (by omega) (fun i z=>by omega) (fun i a b=>by omega) fun l hl lo hi=> ?_
  refine vQ hc h f _ (k+1) (aBs g k (k - l)) (by omega) fun i j hij hj=> ?_
  have d:k - (k - l)=l:=by omega
  rw [vP (by omega) (by omega),vP (by omega) (by omega),d]
  by_cases i1:i=l
  ·rw [if_pos i1]
   by_cases j1:j=l
   ·rw [if_pos j1];exact KeyOrd.kle_refl _
   ·rw [if_neg j1,if_pos (by omega)]
    exact KeyOrd.kle_of_klt (hi _ (by omega) (by omega))
  ·rw [if_neg i1]
   by_cases i2:l<i∧i≤k
   ·rw [if_pos i2,if_neg (by omega),if_pos (by omega)]
    exact hs _ _ (by omega) (by omega)
   ·rw [if_neg i2]
    by_cases j1:j=l
    ·rw [if_pos j1];exact lo i (by omega)
    ·rw [if_neg j1]
     by_cases j2:l<j∧j≤k
     ·rw [if_pos j2];exact hs _ _ (by omega) (by omega)
     ·rw [if_neg j2];exact hs _ _ hij (by omega)
theorem yD (hc:Cm key n cmp s) (hn:1≤n) {G:Array Nat→Shared→Prop} (h: ∀ p',Gd n p'→Srt key p' n→G p' s):(kas_sort n).kasWp cmp G s:=by
 unfold kas_sort
 rw [KasT.kasWp_bind]
 refine tZ hc hn (Array.Perm.refl _) fun m p g h1 h2 hs=> ?_
 dsimp only
 split
 ·rw [show max m 1=m by omega]
  exact vQ hc h _ p m g (by omega) hs
 ·have:m=n:=by omega
  subst this
  exact h p g hs
end
theorem cY: ∀ a,lexB a a=false
 | []=>rfl
 | a::r=>by simp [lexB,cY r]
theorem dR: ∀ a b c,lexB a b=true→lexB b c=true→lexB a c=true
 | [],[],_,h,_=>by cases h
 | [],_::_,[],_,h=>by cases h
 | [],_::_,_::_,_,_=>rfl
 | _::_,[],_,h,_=>by cases h
 | _::_,_::_,[],_,h=>by cases h
 | a::r,b::t,c::u,h1,h2=>by
  unfold lexB at h1 h2 ⊢
  by_cases ab:a=b
  ·subst ab
   rw [if_pos rfl] at h1
   by_cases ac:a=c
   ·rw [if_pos ac] at h2 ⊢;exact dR r t u h1 h2
   ·rw [if_neg ac] at h2 ⊢;exact h2
  ·rw [if_neg ab] at h1
   have h1:=of_decide_eq_true h1
   by_cases bc:b=c
   ·subst bc;rw [if_neg ab];exact decide_eq_true h1
   ·rw [if_neg bc] at h2
    have h2:=of_decide_eq_true h2
    rw [if_neg (by omega)];exact decide_eq_true (by omega)
theorem gZ: ∀ a b c,lexB a c=true→lexB a b=true∨lexB b c=true
 | [],[],[],h=>by cases h
 | [],[],_::_,_=> .inr rfl
 | [],_::_,_,_=> .inl rfl
 | _::_,_,[],h=>by cases h
 | _::_,[],_::_,_=> .inr rfl
 | a::r,b::t,c::u,h=>by
  unfold lexB at h ⊢
  by_cases ac:a=c
  ·subst ac
   rw [if_pos rfl] at h
   by_cases ab:a=b
   ·subst ab;rw [if_pos rfl,if_pos rfl];exact gZ r t u h
   ·rw [if_neg ab,if_neg (Ne.symm ab)]
    rcases Int.lt_or_gt_of_ne ab with z | z
    ·exact .inl (decide_eq_true z)
    ·exact .inr (decide_eq_true z)
  ·rw [if_neg ac] at h
   have h:=of_decide_eq_true h
   by_cases ab:a=b
   ·subst ab;rw [if_neg ac];exact .inr (decide_eq_true h)
   ·rw [if_neg ab]
    by_cases z:a<b
    ·exact .inl (decide_eq_true z)
    ·rw [if_neg (by omega)];exact .inr (decide_eq_true (by omega))
theorem dS: ∀ a b,lexB a b=false→lexB b a=false→a=b
 | [],[],_,_=>rfl
 | [],_::_,h,_=>by cases h
 | _::_,[],_,h=>by cases h
 | a::r,b::t,h1,h2=>by
  unfold lexB at h1 h2
  by_cases ab:a=b
  ·subst ab
   rw [if_pos rfl] at h1 h2
   rw [dS r t h1 h2]
  ·rw [if_neg ab] at h1
   rw [if_neg (Ne.symm ab)] at h2
   have h1:=of_decide_eq_false h1
   have h2:=of_decide_eq_false h2
   omega
noncomputable def lexO:KeyOrd:=⟨List Int,lexB,cY,dR,gZ,dS⟩
theorem yE {a b c:List Int} (h1:lexB b a=false) (h2:lexB c b=false):lexB c a=false:=by
 cases h:lexB c a
 ·rfl
 ·rcases gZ c b a h with z | z
  ·rw [h2] at z;cases z
  ·rw [h1] at z;cases z
theorem eV (a:D): ∀ l,(insD a l).Perm (a::l)
 | []=>List.Perm.refl _
 | b::r=>by
  unfold insD
  split
  ·exact((eV a r).cons b).trans (List.Perm.swap a b r)
  ·exact List.Perm.refl _
theorem dU: ∀ l,(sortD l).Perm l
 | []=>List.Perm.refl _
 | a::r=>(eV a (sortD r)).trans ((dU r).cons a)
theorem fV (a:D): ∀ {l:List D},l.Pairwise (fun x y=>ltD y x=false)→(insD a l).Pairwise (fun x y=>ltD y x=false)
 | [],_=>List.pairwise_singleton _ _
 | b::r,h=>by
  unfold insD
  have h1:=List.pairwise_cons.mp h
  split
  ·rename_i hab
   refine List.pairwise_cons.mpr ⟨fun c hc=> ?_,fV a h1.2⟩
   rcases List.mem_cons.mp ((eV a r).mem_iff.mp hc) with rfl | hc
   ·cases z:ltD c b
    ·rfl
    ·have:=dR _ _ _ hab z;rw [cY] at this;cases this
   ·exact h1.1 c hc
  ·rename_i hab
   have hab:ltD b a=false:=by simpa using hab
   refine List.pairwise_cons.mpr ⟨fun c hc=> ?_,h⟩
   rcases List.mem_cons.mp hc with rfl | hc
   ·exact hab
   ·exact yE hab (h1.1 c hc)
theorem eW: ∀ l,(sortD l).Pairwise (fun x y=>ltD y x=false)
 | []=>List.Pairwise.nil
 | a::r=>fV a (eW r)
def One (ds:List D):Prop:= ∀ x∈ds, ∀ y∈ds,same x y=true
theorem nP {l m:List D} (ho:One l) (p:m.Perm l) (h:m.Pairwise (fun x y=>ltD y x=false)):m=sortD l:=
 List.Perm.eq_of_pairwise (fun a b ha hb x y=>mB (ho a (p.mem_iff.mp ha) b ((dU l).mem_iff.mp hb)) (dS _ _ y x)) h (eW l) (p.trans (dU l).symm)
theorem aBt {n:Nat} {p:Array Nat} {ds:List D} (ho:One ds) (hn:ds.length=n) (g:Gd n p) (st:Srt (O:=lexO) (fun i=>flat (ds.getD i .non)) p n):(p.toList.map fun i=>ds.getD i .non)=sortD ds:=by
 have pe:p.toList.Perm (List.range n):=by
  have:=Array.Perm.toList g
  simpa using this
 refine nP ho ((pe.map _).trans (List.Perm.of_eq ?_)) ?_
 ·apply List.ext_getElem
  ·simp [hn]
  ·intro i h1 h2
   simp [h2]
 ·rw [List.pairwise_map,List.pairwise_iff_getElem]
  intro i j hi hj hij
  have gs:=g.size
  rw [Array.length_toList,gs] at hi hj
  have:=st i j (Nat.le_of_lt hij) hj
  have e: ∀ k (hk:k<p.size),p.getD k 0=p.toList[k]'(by simpa using hk):=fun k hk=>by simp [Array.getD,hk]
  have r:lexB (flat (ds.getD (p.getD j 0) .non)) (flat (ds.getD (p.getD i 0) .non))=false:=this
  rw [e i (by omega),e j (by omega)] at r
  exact r
theorem cM {ds:List D} (h:dNest ds=true):One ds∧(∀ d∈ds,isTup0 d=true∧dep d≤8)∧(2≤ds.length→ ∀ d∈ds,isTupN d=true):=by
 cases ds with
 | nil=>cases h
 | cons d r=>
  simp only [dNest,Bool.and_eq_true,decide_eq_true_eq,List.all_eq_true] at h
  obtain⟨⟨⟨⟨h1,h2⟩,h3⟩,h4⟩,h5⟩:=h
  have sd: ∀ x∈d::r,same d x=true:=fun x hx=>by
   rcases List.mem_cons.mp hx with rfl | hx
   ·exact h4
   ·exact h5 x hx
  have tup: ∀ x,same d x=true→isTup0 x=true:=fun x hx=>by
   cases d<;>simp [isTup0] at h1
   cases x<;>simp [same] at hx
   rfl
  have tupN:isTupN d=true→ ∀ x,same d x=true→isTupN x=true:=fun hd x hx=>by
   cases d<;>simp [isTup0] at h1
   rename_i xs
   cases x<;>simp [same] at hx
   rename_i ys
   cases xs with
   | nil=>simp [isTupN] at hd
   | cons a xs=>
    cases ys with
    | nil=>simp [sames] at hx
    | cons b ys=>rfl
  refine⟨fun x hx y hy=>qF (sd x hx) (sd y hy),fun x hx=>⟨tup x (sd x hx),by rw [(mD (sd x hx)).2.2];exact h3⟩,fun h2' x hx=> ?_⟩
  have hd:isTupN d=true:=by
   rcases(Bool.or_eq_true _ _).mp h2 with q | q
   ·have:r=[]:=by simpa using q
    subst this
    simp at h2'
   ·exact q
  exact tupN hd x (sd x hx)
section
variable {prog:Program} {w:World} {A:Around} {Ex:Value→Shared→Prop} {s:Shared}
mutual
theorem nQ {h h':Heap} (k: ∀ b o,o.cls= .type "tuple"→h.get? b=some o→h'.get? b=some o): ∀ {d:PyData} {v:Value} {as:List Addr},hk d=true→Reads h v d as→Reads h' v d as
 | _,_,_,_, .none=> .none
 | _,_,_,_, .int i t=> .int i t
 | _,_,_,hd, .tuple e c q r=> .tuple (k _ _ c e) c q (aP k (by simpa [hk] using hd) r)
 | _,_,_,hd, .bool _=>by simp [hk] at hd
 | _,_,_,hd, .str _ _=>by simp [hk] at hd
 | _,_,_,hd, .list _ _ _ _=>by simp [hk] at hd
 | _,_,_,hd, .dict _ _ _ _ _=>by simp [hk] at hd
theorem aP {h h':Heap} (k: ∀ b o,o.cls= .type "tuple"→h.get? b=some o→h'.get? b=some o): ∀ {ds:List PyData} {vs:List Value} {as:List Addr},hks ds=true→ReadsAll h vs ds as→ReadsAll h' vs ds as
 | _,_,_,_, .nil=> .nil
 | _,_,_,hd, .cons a b=>by
  simp only [hks,Bool.and_eq_true] at hd
  exact .cons (nQ k hd.1 a) (aP k hd.2 b)
end
theorem mF {n:Nat} {b fin:Bool} {Q:Bool→Shared→Prop} (hu:A.units+n<cLine): ∀ {us vs:List Value} {xs ys:List D} {as bs:List Addr} (i:Nat),ReadsAll s.heap us (toPys xs) as→ReadsAll s.heap vs (toPys ys) bs→sames xs ys=true→deps xs≤n→((b&&i==0)=true→ ∃ k r,xs= .int k::r)→fin=decide (xs.length<ys.length)→Q (lexB (flats xs) (flats ys)) s→KatLex prog w A b fin Q (us.zip vs) i s
 | us,vs,[],[],as,bs,i,ra,rb,hs,hn,hb,hf,h=>by
  simp only [toPys] at ra rb
  cases ra;cases rb
  subst hf;exact h
 | us,vs,[],_::_,as,bs,i,ra,rb,hs,hn,hb,hf,h=>by simp [sames] at hs
 | us,vs,_::_,[],as,bs,i,ra,rb,hs,hn,hb,hf,h=>by simp [sames] at hs
 | us,vs,x::xs,y::ys,as,bs,i,ra,rb,hs,hn,hb,hf,h=>by
  simp only [toPys] at ra rb
  cases ra with
  | @cons u us _ _ a1 a2 ru ra=>
   cases rb with
   | @cons v vs _ _ b1 b2 rv rb=>
    simp only [sames,Bool.and_eq_true] at hs
    simp only [deps] at hn
    obtain⟨s1,s2,s3⟩:=mD hs.1
    have p1:=bF s2
    have p2:=bF s1
    have heq:=SeqAt.eqAt_reads (toPy x) (toPy y) A s u v a1 b1 ru rv (bY p1) (bY p2) (by rw [bZ,bZ];omega)
    rw [b8 x y p1 p2,gT hs.1] at heq
    refine kat_cons (heq prog w _ _ ?_)
    simp only [flats] at h
    rw [gW (dB hs.1)] at h
    by_cases e:flat x=flat y
    ·rw [if_pos e] at h
     rw [e,beq_self_eq_true]
     refine kat_yes (mF hu (i+1) ra rb hs.2 (by omega) (fun z=>by simp at z) ?_ h)
     rw [hf];simp
    ·rw [if_neg e] at h
     rw [show(flat x==flat y)=false by simpa using e]
     refine kat_no ?_
     cases hbi:(b&&i==0) with
     | true=>
      obtain⟨k,r,ex⟩:=hb hbi
      cases ex
      cases y<;>simp [same] at hs
      rename_i k2
      simp only [toPy] at ru rv
      cases ru;cases rv
      have e2:lexB (flat (D.int k)) (flat (D.int k2))=decide (k<k2):=by
       have e': ¬ k=k2:=fun z=>e (by rw [z])
       simp only [flat,lexB,if_neg e']
      rw [e2] at h
      exact oneLt_int h
     | false=>exact kat_one _ _ (aBr n x y u v a1 b1 A s _ _ hs.1 (by omega) ru rv hu h)
theorem jG (l:List D):(toPys l).length=l.length:=by induction l with | nil=>rfl | cons a l ih=>simp [toPys,ih]
theorem dC {h:Heap}: ∀ {us:List Value} {ds:List D} {as:List Addr} {i:Nat},ReadsAll h us (toPys ds) as→i<ds.length→ ∃ bs,Reads h (us.getD i .none) (toPy (ds.getD i .non)) bs
 | _,[],_,_,_,hi=>by cases hi
 | us,d::ds,as,i,r,hi=>by
  simp only [toPys] at r
  cases r with
  | @cons u us _ _ a1 a2 ru ra=>
   cases i with
   | zero=>exact⟨a1,ru⟩
   | succ i=>exact dC (us:=us) (ds:=ds) ra (by simpa using hi)
theorem jH {h:Heap}: ∀ {vs:List Value} {ds:List D} {as:List Addr},ReadsAll h vs (toPys ds) as→(∀ d∈ds,isTupN d=true)→ ∃ fs:List Value,KatTups h vs fs∧fs.length=vs.length∧ ∀ f∈fs, ∃ d∈ds, ∃ x r bs,d= .tup (x::r)∧Reads h f (toPy x) bs
 | _,[],_,r,_=>by
  simp only [toPys] at r
  cases r
  exact⟨[],trivial,rfl,nofun⟩
 | _,d::ds,_,r,hn=>by
  simp only [toPys] at r
  cases r with
  | @cons u us _ _ a1 a2 ru ra=>
   obtain⟨fs,f1,f2,f3⟩:=jH ra fun x hx=>hn x (.tail _ hx)
   have hd:=hn d (.head _)
   cases d<;>simp [isTupN] at hd
   rename_i xs
   cases xs with
   | nil=>simp at hd
   | cons x xs=>
    simp only [toPy] at ru
    cases ru with
    | @tuple a o vs n _ _ ho hc hdat rr=>
     simp only [toPys] at rr
     cases hvs:vs.toList with
     | nil=>rw [hvs] at rr;cases rr
     | cons f ft=>
      rw [hvs] at rr
      cases rr with
      | cons rf rt=>
       have h0:vs[0]? =some f:=by rw [←Array.getElem?_toList,hvs];rfl
       refine⟨f::fs,KatTups.cons ho hc hdat h0 f1,by simp [f2],fun g hg=> ?_⟩
       rcases List.mem_cons.mp hg with rfl | hg
       ·exact⟨_, .head _,x,xs,_,rfl,rf⟩
       ·obtain⟨d',m,q⟩:=f3 g hg
        exact⟨d', .tail _ m,q⟩
theorem qJ {a:Addr} {vs:List Value} {ds:List D} {as:List Addr} {n:Nat} {P:PySem.Fin→Shared→Prop} (hu:A.units+9<cLine) (ho:s.heap.get? a=some (seqObj "list" vs.toArray n)) (hr:ReadsAll s.heap vs (toPys ds) as) (hd:dNest ds=true) (h64:vs.length<64)
  (h: ∀ p:Array Nat,Gd vs.length p→Srt (O:=lexO) (fun i=>flat (ds.getD i .non)) p vs.length→P (.done (.ret .none)) { s with heap:=sortedHeap s.heap a vs (List.toArray (p.toList.map fun i=>vs.getD i Value.none)) }):
  wpAny (model prog w) A (Builtin.«list.sort» ⟨[.ref a],[]⟩) P Ex s:=by
 obtain⟨one,tups,tupN⟩:=cM hd
 have hlen:vs.length=ds.length:=by rw [SeqAt.ReadsAll.length _ _ _ hr,jG]
 have hks': ∀ {l:List D},(∀ x∈l,same x x=true)→hks (toPys l)=true:=by
  intro l
  induction l with
  | nil=>intro _;rfl
  | cons x l ih=>intro hl;simp [toPys,hks,gU (hl x (.head _)),ih fun y hy=>hl y (.tail _ hy)]
 rw [list_sort_plain]
 have ha:a<s.heap.objs.size:=Heap.lt_size ho
 refine wpAny_bind (listItems_at ho rfl (wpAny_bind (listUpdate_at ho rfl ?_ (by rw [List.size_toArray,sizeLine_eq];omega) (Nat.zero_le _))))
 obtain⟨e1,ho1⟩: ∃ e1,(s.heap.update a (Obj.mapSeq fun _=>(#[]:Array Value))).get? a=some (seqObj "list" #[] e1):=⟨_,get?_update_seq ho fun _=> #[]⟩
 refine wpAny_bind (seqEpoch_at ho1 rfl (wpAny_bind (wpAny_newTuple ?_ (by show vs.length≤_;rw [sizeLine_eq];omega))))
 refine wpAny_bind (wpAny_newList (wpAny_holding ?_) (Nat.zero_le _))
 have ho6:(((s.heap.update a (Obj.mapSeq fun _=> #[])).push (seqObj "tuple" vs.toArray 0)).push (seqObj "list" #[] 0)).get? a=some (seqObj "list" #[] e1):=Heap.get?_push_of_some _ (Heap.get?_push_of_some _ ho1)
 have keep: ∀ b o,o.cls= .type "tuple"→s.heap.get? b=some o→(((s.heap.update a (Obj.mapSeq fun _=> #[])).push (seqObj "tuple" vs.toArray 0)).push (seqObj "list" #[] 0)).get? b=some o:=fun b o c e=>by
  have nb:b≠a:=fun z=>by subst z;rw [ho] at e;cases e;simp at c
  exact Heap.get?_push_of_some _ (Heap.get?_push_of_some _ ((Heap.get?_update_ne _ _ _ _ nb).trans e))
 have hr6:=aP keep (hks' fun x hx=>one x hx x hx) hr
 show wpAny (model prog w) A _ P Ex { s with heap:=((s.heap.update a (Obj.mapSeq fun _=> #[])).push (seqObj "tuple" vs.toArray 0)).push (seqObj "list" #[] 0) }
 dsimp only
 by_cases h2:vs.toArray.size<2
 ·rw [if_pos h2,if_pos h2]
  refine wpAny_bind (wpAny_pure ?_)
  rw [StateT.run_pure]
  refine wpAny_bind (wpAny_pure ?_)
  dsimp only
  have hz:(vs.toArray.zip vs.toArray).size=vs.length:=by simp
  have har:arrOf (SortSt.mk' general' (vs.toArray.zip vs.toArray) #[] 7 none)=(List.toArray (List.range vs.length)).map (kas_item (vs.toArray.zip vs.toArray)):=by
   have:=kas_range (vs.toArray.zip vs.toArray)
   rw [hz] at this
   exact this.symm
  have hout:=kat_snds rfl har
  have hsz:((arrOf (SortSt.mk' general' (vs.toArray.zip vs.toArray) #[] 7 none)).map (·.2)).size≤sizeLine+1:=by rw [hout,List.size_toArray,List.length_map];simp;rw [sizeLine_eq];omega
  refine wpAny_bind (seqEpoch_at ho6 rfl (wpAny_bind (listUpdate_at ho6 rfl ?_ (Nat.zero_le _) hsz)))
  simp only [bne_self_eq_false,Bool.false_eq_true,if_false]
  have fin:=h (List.toArray (List.range vs.length)) (Array.Perm.refl _) fun i j hij hj=>by
   rw [List.size_toArray] at h2
   rw [show i=j by omega];exact KeyOrd.kle_refl _
  rw [←hout] at fin
  exact wpAny_pure fin
 ·rw [if_neg h2,if_neg h2]
  have h2':2≤vs.length:=by rw [List.size_toArray] at h2;omega
  obtain⟨fs,f1,f2,f3⟩:=jH hr6 (tupN (by omega))
  have hd0:0<ds.length:=by omega
  -- the kind of the first things
  obtain⟨T,hT2,hTl,hTi⟩: ∃ T:Value,(T==T)=true∧(∀ v∈fs,Looks (model prog w) (((s.heap.update a (Obj.mapSeq fun _=> #[])).push (seqObj "tuple" vs.toArray 0)).push (seqObj "list" #[] 0)) (typeOf v) T)∧((T != Value.type "tuple")=true→ ∀ d∈ds, ∃ k r,d= .tup (.int k::r)):=by
   obtain⟨d0,hm0⟩: ∃ d0,d0∈ds:=⟨ds[0],List.getElem_mem hd0⟩
   have hN:=tupN (by omega) d0 hm0
   cases d0<;>simp [isTupN] at hN
   rename_i xs0
   cases xs0 with
   | nil=>simp at hN
   | cons x0 r0=>
    have sx: ∀ d∈ds, ∀ x r,d= .tup (x::r)→same x0 x=true:=fun d hd x r e=>by
     have:=one _ hm0 d hd
     rw [e] at this
     simp only [same,sames,Bool.and_eq_true] at this
     exact this.1
    have form: ∀ d∈ds, ∃ x r,d= .tup (x::r):=fun d hd=>by
     have hN:=tupN (by omega) d hd
     cases d<;>simp [isTupN] at hN
     rename_i xs
     cases xs with
     | nil=>simp at hN
     | cons x r=>exact⟨x,r,rfl⟩
    have x0s:=sx _ hm0 x0 r0 rfl
    cases x0<;>try (simp [same] at x0s;done)
    ·refine⟨.type "int",by decide,fun v hv=> ?_,fun _ d hd=> ?_⟩
     ·obtain⟨d,hd,x,r,bs,e,rx⟩:=f3 v hv
      have:=sx d hd x r e
      cases x<;>simp [same] at this
      simp only [toPy] at rx
      cases rx
      exact Looks.of_pure rfl
     ·obtain⟨x,r,e⟩:=form d hd
      have:=sx d hd x r e
      cases x<;>simp [same] at this
      exact⟨_,_,e⟩
    ·refine⟨.type "tuple",by decide,fun v hv=> ?_,fun z=>by simp at z⟩
     obtain⟨d,hd,x,r,bs,e,rx⟩:=f3 v hv
     have:=sx d hd x r e
     cases x<;>simp [same] at this
     simp only [toPy] at rx
     cases rx with
     | tuple ho' hc' hd' _=>exact fun A Q E s2 k q=>wpAny_typeOf (⟨_,k _ _ ho',hc'⟩:s2.TypeIs (.ref _) "tuple") q
  refine wpAny_bind (kat_kind (T:=T) f1 (by omega) hTl hT2 ?_)
  have hc:Cm (O:=lexO) (fun i=>flat (ds.getD i .non)) vs.length (kas_ask prog w A (tuples' (T != Value.type "tuple")) vs) { s with heap:=((s.heap.update a (Obj.mapSeq fun _=> #[])).push (seqObj "tuple" vs.toArray 0)).push (seqObj "list" #[] 0) }:=by
   intro i j C hi hj hC
   obtain⟨b1,r1⟩:=dC hr6 (i:=i) (by omega)
   obtain⟨b2,r2⟩:=dC hr6 (i:=j) (by omega)
   have mi:ds.getD i .non∈ds:=by
    have hi':i<ds.length:=by omega
    rw [List.getD_eq_getElem?_getD,List.getElem?_eq_getElem hi',Option.getD_some];exact List.getElem_mem hi'
   have mj:ds.getD j .non∈ds:=by
    have hj':j<ds.length:=by omega
    rw [List.getD_eq_getElem?_getD,List.getElem?_eq_getElem hj',Option.getD_some];exact List.getElem_mem hj'
   have sij:=one _ mi _ mj
   obtain⟨ti,di⟩:=tups _ mi
   have hTi':=fun z=>hTi z _ mi
   have hC':C (lexB (flat (ds.getD i .non)) (flat (ds.getD j .non))) _:=hC
   generalize ds.getD i .non=x at r1 sij ti di hTi' hC'
   generalize ds.getD j .non=y at r2 sij hC'
   unfold kas_ask
   cases x<;>try (simp [same] at sij;done)
   ·simp [isTup0] at ti
   ·cases y<;>simp [same] at sij
    rename_i xs ys
    simp only [toPy] at r1 r2
    generalize vs.getD i Value.none=u at r1
    generalize vs.getD j Value.none=v at r2
    cases r1 with
    | @tuple a1 o1 us n1 _ _ g1 g2 g3 ra=>
     cases r2 with
     | @tuple a2 o2 ws n2 _ _ k1 k2 k3 rb=>
      simp only [dep] at di
      refine kat_lt g1 g3 k1 k3 (mF (n:=8) (by omega) 0 ra rb sij (by omega) (fun z=> ?_) ?_ (by simpa [flat] using hC'))
      ·have z':(T != Value.type "tuple")=true:=by simpa using z
       obtain⟨k,r,e⟩:=hTi' z'
       exact⟨k,r,by cases e;rfl⟩
      ·have l1:=SeqAt.ReadsAll.length _ _ _ ra
       have l2:=SeqAt.ReadsAll.length _ _ _ rb
       rw [jG] at l1 l2
       rw [←l1, ←l2];simp
  refine wpAny_bind (wpAny_mono (kat_run (Q:=fun st' s'=> ∃ p:Array Nat,s'={ s with heap:=((s.heap.update a (Obj.mapSeq fun _=> #[])).push (seqObj "tuple" vs.toArray 0)).push (seqObj "list" #[] 0) }∧arrOf st'=p.map (kas_item (vs.toArray.zip vs.toArray))∧failedOf st'=none∧Gd vs.length p∧Srt (O:=lexO) (fun i=>flat (ds.getD i .non)) p vs.length)
   (G:=fun p s'=>s'={ s with heap:=((s.heap.update a (Obj.mapSeq fun _=> #[])).push (seqObj "tuple" vs.toArray 0)).push (seqObj "list" #[] 0) }∧Gd vs.length p∧Srt (O:=lexO) (fun i=>flat (ds.getD i .non)) p vs.length)
   rfl h2' h64 (fun p st' s' a1 a2 a3 a4=>⟨p,a4.1,a2,a3,a4.2⟩) (yD hc (by omega) fun p g st=>⟨rfl,g,st⟩)) ?_ fun _ _ e=>e)
  rintro⟨⟨⟩,st'⟩ s' ⟨p,rfl,har,hf,g,st⟩
  dsimp only
  have hout:=kat_snds rfl har
  have hsz:(List.toArray (p.toList.map fun i=>vs.getD i Value.none)).size=vs.length:=by rw [List.size_toArray,List.length_map,Array.length_toList,g.size]
  rw [hout]
  refine wpAny_bind (seqEpoch_at ho6 rfl (wpAny_bind (listUpdate_at ho6 rfl ?_ (Nat.zero_le _) (by rw [hsz,sizeLine_eq];omega))))
  rw [hf]
  simp only [bne_self_eq_false,Bool.false_eq_true,if_false]
  exact wpAny_pure (h p g st)
theorem kR {l:Addr} {Cd:List Value→Heap→Nat→Prop} {Q:Value→Shared→Prop} (hu:A.units+11<cLine)
  (hcol: ∀ Q':List Value→Shared→Prop,(∀ vs h1 tk,Cd vs h1 tk→Q' vs { s with heap:=h1,toks:=tk })→wpAny (model prog w) A.in1 (collect (.ref l)) Q' Ex s)
  (h: ∀ vs h1 tk,Cd vs h1 tk→ ∃ ds as,ReadsAll h1 vs (toPys ds) as∧dNest ds=true∧vs.length<64∧
   ∀ (h':Heap) (p:Array Nat) (e:Nat),(∀ b o,h1.get? b=some o→h'.get? b=some o)→h'.get? h1.objs.size=some (seqObj "list" (List.toArray (p.toList.map fun i=>vs.getD i Value.none)) e)→Gd vs.length p→Srt (O:=lexO) (fun i=>flat (ds.getD i .non)) p vs.length→Q (.ref h1.objs.size) { s with heap:=h',toks:=tk }):
  wpAny (model prog w) A (call (.builtin "sorted") [.ref l]) Q Ex s:=by
 refine Calls.call_function_entry kind_sorted plain_sorted entry_sorted (args_sorted1 _) ?_
 unfold Builtin.«sorted»
 refine wpAny_bind (m:=checkCount "sorted" 1 1 _) (wpAny_pure ?_)
 refine wpAny_bind (hcol _ fun vs h1 tk hC=> ?_)
 obtain⟨ds,as,hr,hd,h64,hQ⟩:=h vs h1 tk hC
 refine wpAny_bind (wpAny_newList ?_ (by rw [sizeLine_eq];first | omega | (simp;omega)))
 have hoL:(h1.push (seqObj "list" vs.toArray 0)).get? h1.objs.size=some (seqObj "list" vs.toArray 0):=Heap.get?_push_size _ rfl
 have hks':hks (toPys ds)=true:=by
  obtain⟨one,_,_⟩:=cM hd
  have: ∀ l:List D,(∀ x∈l,same x x=true)→hks (toPys l)=true:=fun l=>by
   induction l with
   | nil=>intro _;rfl
   | cons x l ih=>intro hl;simp [toPys,hks,gU (hl x (.head _)),ih fun y hy=>hl y (.tail _ hy)]
  exact this ds fun x hx=>one x hx x hx
 show wpAny _ _ _ _ _ { s with heap:=h1.push (seqObj "list" vs.toArray 0),toks:=tk }
 refine wpAny_bind (wpAny_holding (wpAny_call_entry slot_list_sort ⟨_,hoL,rfl⟩ entry_list_sort (qJ (by have:=A.in1_units;have:=A.in1.in1_units;omega) hoL (aP (fun b o _ e=>Heap.get?_push_of_some _ e) hks' hr) hd h64 fun p a1 a2=>⟨_,rfl, ?_⟩) (args_list_sort _)))
 obtain⟨e,he⟩:=sortedHeap_at (out:=List.toArray (p.toList.map fun i=>vs.getD i Value.none)) hoL
 refine wpAny_pure ⟨_,rfl,hQ _ p e (fun b o' q1=> ?_) he a1 a2⟩
 have lt:b<h1.objs.size:=Heap.lt_size q1
 rw [sortedHeap_old (Nat.ne_of_lt lt) (by rw [Heap.size_push];exact Nat.lt_succ_of_lt lt),Heap.get?_push_ne _ _ _ (Nat.ne_of_lt lt)]
 exact q1
end
section
variable {prog:Program} {w:World} {A:Around} {I:Addr} {fp wr:List Addr} {G:Array GenState→Array GenState→Prop} {n:Nat} {P:Nat→Value→Prop} {St:Nat→Shared→Prop} {E:Value→Shared→Prop} {s:Shared} {R:_→Shared→Prop}
structure CmpJ (prog:Program) (w:World) (A:Around) (P:Nat→Value→Prop) (bt:Nat→Nat→Bool) (wr:List Addr) (J:Heap→Prop):Prop where
 cmp: ∀ i j vi vj (s:Shared) (Q:Value→Shared→Prop) (E:Value→Shared→Prop),j<i→P i vi→P j vj→J s.heap→Q (.bool (bt i j)) s→wpAny (model prog w) A (richCompare .Lt vi vj) Q E s
 keep: ∀ h h':Heap,(∀ b o,b∉wr→h.get? b=some o→h'.get? b=some o)→J h→J h'
theorem dW (bt:Nat→Nat→Bool): ∀ j,argBest bt j≤j
 | 0=>Nat.le_refl _
 | j+1=>by
  have:=dW bt j
  simp only [argBest];split<;>omega
theorem qK {J:Heap→Prop} (W:WalksS prog w A.in1 I fp wr G n P St) (bt:Nat→Nat→Bool) (S:Addr) (C:CmpJ prog w A.in1 P bt (S::wr) J) (hSf:S∉fp):
  ∀ (k j:Nat) (s:Shared) (vb:Value) (c:Nat),n - (j+1)=k→j+1≤n→St (j+1) s→J s.heap→P (argBest bt j) vb→
  s.heap.get? S=some { cls:= .type "list",dict:=none,data:= .seq #[vb,vb] c,slots:= #[] }→
  (∀ v s',P (argBest bt (n - 1)) v→Moved (S::wr) G s s'→R (.ok (.ret v)) s')→codeAny (model prog w) A (.builtin "min.loop" ⟨[.ref I, .none, .ref S],[]⟩) R s:=by
 have hSw:S∉wr:=fun h=>hSf (W.sub _ h)
 have hsub: ∀ b∈wr,b∈S::wr:=fun b hb=>List.mem_cons_of_mem _ hb
 have hname:(toString "min"++toString ".loop":String)="min.loop":=by decide
 have notS: ∀ {b:Addr},b∉S::wr→S≠b:=fun hb h=>hb (by rw [h];exact List.mem_cons_self)
 intro k
 induction k with
 | zero=>
  intro j s vb c hk hj hst hJ hPb hS hR
  have hin:j+1=n:=by omega
  refine codeAny_builtin F.entry_min_loop ?_
  rw [Around.under_plainId F.plain_min_loop _]
  show wpAny _ A.in1 (seqItems? (.ref S) >>= _) _ _ s
  refine wpAny_bind (wpAny_seqItems hS rfl ?_)
  show wpAny _ A.in1 (tryCatch (pyNext (.ref I)) _ >>= _) _ _ s
  refine wpAny_bind (wpAny_tryCatch (W.done s _ _ (hin▸hst) fun s' hm=> ?_))
  have hS':=hm.heap S _ hSw hS
  show wpAny _ A.in1 (updateSeq S (fun _=> #[]) >>= _) _ _ _
  refine wpAny_bind ?_
  refine wpAny_updateSeq hS' rfl (wpAny_bind (wpAny_letGo (wpAny_pure ?_)))
  exact hR vb _ (by rw [←hin];exact hPb) ((hm.mono hsub).then_heap (tk:=s'.toks) (Nat.le_refl _) fun b o hb e=>(Heap.get?_update_other _ _ (notS hb)).trans e)
 | succ k ih=>
  intro j s vb c hk hj hst hJ hPb hS hR
  have hlt:j+1<n:=by omega
  refine codeAny_builtin F.entry_min_loop ?_
  rw [Around.under_plainId F.plain_min_loop _]
  show wpAny _ A.in1 (seqItems? (.ref S) >>= _) _ _ s
  refine wpAny_bind (wpAny_seqItems hS rfl ?_)
  show wpAny _ A.in1 (tryCatch (pyNext (.ref I)) _ >>= _) _ _ s
  refine wpAny_bind (wpAny_tryCatch (W.item (j+1) s _ _ hlt hst fun v s' hP hst' hm=> ?_))
  have hS':=hm.heap S _ hSw hS
  have hJ':J s'.heap:=C.keep _ _ (fun b o hb e=>hm.heap b o (fun z=>hb (hsub _ z)) e) hJ
  have hle:=dW bt j
  show wpAny _ A.in1 (tryCatch (holding [v,v] (richCompare .Lt v vb >>= _)) _ >>= _) _ _ _
  refine wpAny_bind (wpAny_tryCatch (wpAny_holding (wpAny_bind (C.cmp (j+1) (argBest bt j) v vb _ _ _ (by omega) hP hPb hJ' ?_))))
  refine wpAny_bind (wpAny_holding (wpAny_truthy_bool ?_))
  refine wpAny_bind (wpAny_letGo (wpAny_pure ?_))
  cases hb:bt (j+1) (argBest bt j) with
  | true=>
   simp only [if_true]
   refine wpAny_bind ?_
   refine wpAny_updateSeq hS' rfl (wpAny_bind (wpAny_letGo ?_))
   rw [hname]
   refine wpAny_pure ⟨plainId_quiet F.plain_min_loop _,ih (j+1) _ v _ (by omega) hlt (W.frame _ s' _ s'.toks hst' (Nat.le_refl _) fun b hbf o e=> ?_) ?_ (by simp only [argBest,hb,if_true];exact hP) (Heap.get?_update_self _ hS' rfl)
    fun v' s'' hP' hm''=> ?_⟩
   ·exact(Heap.get?_update_other _ _ (fun h:S=b=>hSf (by rw [h];exact hbf))).trans e
   ·exact C.keep _ _ (fun b o hb e=>(Heap.get?_update_other _ _ (notS hb)).trans e) hJ'
   ·exact hR v' s'' hP' (Moved.trans W.gtrans ((hm.mono hsub).then_heap (by first | exact Nat.le_refl _ | exact Nat.le_succ _ | omega) fun b o hb e=>(Heap.get?_update_other _ _ (notS hb)).trans e) hm'')
  | false=>
   simp only [Bool.false_eq_true,if_false]
   refine wpAny_bind (wpAny_letGo ?_)
   rw [hname]
   refine wpAny_pure ⟨plainId_quiet F.plain_min_loop _,ih (j+1) _ vb c (by omega) hlt hst' hJ' (by simp only [argBest,hb,Bool.false_eq_true,if_false];exact hPb) hS' fun v' s'' hP' hm''=> ?_⟩
   exact hR v' s'' hP' (Moved.trans W.gtrans (hm.mono hsub) hm'')
theorem nR {J:Heap→Prop} (W:WalksS prog w A.in1 I fp wr G n P St) (bt:Nat→Nat→Bool) (S:Addr) (C:CmpJ prog w A.in1 P bt (S::wr) J) (hSf:S∉fp) (hn:0<n) {s:Shared} {c:Nat} (hst:St 0 s) (hJ:J s.heap)
  (hS:s.heap.get? S=some { cls:= .type "list",dict:=none,data:= .seq #[] c,slots:= #[] })
  (hR: ∀ v s',P (argBest bt (n - 1)) v→Moved (S::wr) G s s'→R (.ok (.ret v)) s'):codeAny (model prog w) A (.builtin "min.loop" ⟨[.ref I, .none, .ref S],[]⟩) R s:=by
 have hSw:S∉wr:=fun h=>hSf (W.sub _ h)
 have hsub: ∀ b∈wr,b∈S::wr:=fun b hb=>List.mem_cons_of_mem _ hb
 have hname:(toString "min"++toString ".loop":String)="min.loop":=by decide
 have notS: ∀ {b:Addr},b∉S::wr→S≠b:=fun hb h=>hb (by rw [h];exact List.mem_cons_self)
 refine codeAny_builtin F.entry_min_loop ?_
 rw [Around.under_plainId F.plain_min_loop _]
 show wpAny _ A.in1 (seqItems? (.ref S) >>= _) _ _ s
 refine wpAny_bind (wpAny_seqItems hS rfl ?_)
 show wpAny _ A.in1 (tryCatch (pyNext (.ref I)) _ >>= _) _ _ s
 refine wpAny_bind (wpAny_tryCatch (W.item 0 s _ _ hn hst fun v s' hP hst' hm=> ?_))
 have hS':=hm.heap S _ hSw hS
 have hJ':J s'.heap:=C.keep _ _ (fun b o hb e=>hm.heap b o (fun z=>hb (hsub _ z)) e) hJ
 show wpAny _ A.in1 (updateSeq S (fun _=> #[v,v]) >>= _) _ _ _
 refine wpAny_bind ?_
 refine wpAny_updateSeq hS' rfl ?_
 rw [hname]
 refine wpAny_pure ⟨plainId_quiet F.plain_min_loop _,qK W bt S C hSf _ 0 _ v _ rfl hn (W.frame _ s' _ s'.toks hst' (Nat.le_refl _) fun b hbf o e=> ?_) (C.keep _ _ (fun b o hb e=>(Heap.get?_update_other _ _ (notS hb)).trans e) hJ') hP (Heap.get?_update_self _ hS' rfl) fun v' s'' hP' hm''=> ?_⟩
 ·exact(Heap.get?_update_other _ _ (fun h:S=b=>hSf (by rw [h];exact hbf))).trans e
 ·exact hR v' s'' hP' (Moved.trans W.gtrans ((hm.mono hsub).then_heap (by first | exact Nat.le_refl _ | exact Nat.le_succ _ | omega) fun b o hb e=>(Heap.get?_update_other _ _ (notS hb)).trans e) hm'')
theorem qL {x:Value} {Q:Value→Shared→Prop}
  (h:wpAny (model prog w) A.in1 (pyIter x) (fun it s₂=> ∃ I fp wr G n P St bt J,it= .ref I∧WalksS prog w A.in1 I fp wr G n P St∧St 0 s₂∧(∀ b∈fp,b<s₂.heap.objs.size)∧0<n∧CmpJ prog w A.in1 P bt (s₂.heap.objs.size::wr) J∧J s₂.heap∧
   ∀ v s',P (argBest bt (n - 1)) v→Moved wr G s₂ s'→Q v s') E s):
  wpAny (model prog w) A (call (.builtin "min") [x]) Q E s:=by
 have hname:(toString "min"++toString ".loop":String)="min.loop":=by decide
 refine call_function_tree F.kind_min F.plain_min F.entry_min (F.args_min1 _) ?_
 show wpAny _ A.in1 (Builtin.Builtins.bindParams "min" ["key","default"] 0 ⟨[],[]⟩ >>= _) _ _ s
 refine wpAny_bind (wpAny_of_eq (show Builtin.Builtins.bindParams "min" ["key","default"] 0 ⟨[],[]⟩=pure [none,none] from rfl) ?_)
 refine wpAny_bind (wpAny_pure ?_)
 refine wpAny_bind (wpAny_mono h (fun it s₂ h₂=> ?_) fun _ _ e=>e)
 obtain⟨I,fp,wr,G,n,P,St,bt,J,rfl,W,hst,hfp,hn,C,hJ,hQ⟩:=h₂
 refine wpAny_bind (wpAny_newObj_type ?_)
 have hSf:s₂.heap.objs.size∉fp:=fun hm=>Nat.lt_irrefl _ (hfp _ hm)
 rw [hname]
 refine wpAny_pure ⟨plainId_quiet F.plain_min_loop _,nR W bt s₂.heap.objs.size C hSf hn (W.frame 0 s₂ _ s₂.toks hst (Nat.le_refl _) fun b _ o e=>Heap.get?_push_of_some _ e) (C.keep _ _ (fun b o _ e=>Heap.get?_push_of_some _ e) hJ) (Heap.get?_push_size _ rfl) fun v s' hP hm=> ?_⟩
 exact hQ v s' hP (Moved.drop_new (tk:=s₂.toks) hm (Nat.le_refl _))
end
theorem bestD (ds:List D): ∀ (d:D) (r:List D),ds=d::r→ ∀ j,j<ds.length→ds.getD (argBest (fun i j=>ltD (ds.getD i .non) (ds.getD j .non)) j) .non=minD d (r.take j):=by
 intro d r hd j
 induction j with
 | zero=>intro _;subst hd;simp [argBest,minD]
 | succ j ih=>
  intro hj
  have ih:=ih (by omega)
  have hr:j<r.length:=by subst hd;simpa using hj
  have e1:ds.getD (j+1) .non=r[j]:=by subst hd;simp [hr]
  have e2:r.take (j+1)=r.take j++[r[j]]:=(List.take_append_getElem hr).symm
  have e3: ∀ (d:D) (l:List D) (x:D),minD d (l++[x])=if ltD x (minD d l) then x else minD d l:=by
   intro d l
   induction l generalizing d with
   | nil=>intro x;cases h:ltD x d<;>simp [minD,h]
   | cons y l ihl=>intro x;simp only [List.cons_append,minD];exact ihl _ x
  rw [e2,e3, ←ih]
  simp only [argBest]
  by_cases h:ltD r[j] (ds.getD (argBest (fun i j=>ltD (ds.getD i .non) (ds.getD j .non)) j) .non)=true
  ·have h1:ltD (ds.getD (j+1) .non) (ds.getD (argBest (fun i j=>ltD (ds.getD i .non) (ds.getD j .non)) j) .non)=true:=by rw [e1];exact h
   rw [if_pos h1,if_pos h];exact e1
  ·have h1: ¬ ltD (ds.getD (j+1) .non) (ds.getD (argBest (fun i j=>ltD (ds.getD i .non) (ds.getD j .non)) j) .non)=true:=by rw [e1];exact h
   rw [if_neg h1,if_neg h]
section
variable {X:Cx} {ad:Ad} {G:Hp}
theorem jI {ds:List D} {vs:List V} (h:Reps X.K ad G ds vs): ∀ {l:List Nat},(∀ i∈l,i<ds.length)→Reps X.K ad G (l.map fun i=>ds.getD i .non) (l.map fun i=>vs.getD i .non)
 | [],_=>Reps.nil
 | i::l,hl=>by
  have hi:=hl i (.head _)
  obtain⟨v,e,r⟩:=h.get (List.getElem?_eq_getElem hi)
  refine Reps.cons ?_ (jI h fun j hj=>hl j (.tail _ hj))
  have e1:ds.getD i .non=ds[i]:=by simp [hi]
  have e2:vs.getD i .non=v:=by simp [e]
  show Rep X.K ad G (ds.getD i .non) (vs.getD i .non)
  rw [e1,e2];exact r
theorem jJ {vs:List V} {us:List Value} (h:Vals vs us): ∀ {l:List Nat},(∀ i∈l,i<vs.length)→Vals (l.map fun i=>vs.getD i .non) (l.map fun i=>us.getD i .none)
 | [],_=> .nil
 | i::l,hl=>by
  have hi:=hl i (.head _)
  obtain⟨u,e,r⟩:=h.get (List.getElem?_eq_getElem hi)
  refine .cons ?_ (jJ h fun j hj=>hl j (.tail _ hj))
  have e1:vs.getD i .non=vs[i]:=by simp [hi]
  have e2:us.getD i .none=u:=by simp [e]
  show RelV (vs.getD i .non) (us.getD i .none)
  rw [e1,e2];exact r
theorem vR {ds:List D} (hd:dNest ds=true):hks (toPys ds)=true:=by
 obtain⟨one,_,_⟩:=cM hd
 have: ∀ l:List D,(∀ x∈l,same x x=true)→hks (toPys l)=true:=fun l=>by
  induction l with
  | nil=>intro _;rfl
  | cons x l ih=>intro hl;simp [toPys,hks,gU (hl x (.head _)),ih fun y hy=>hl y (.tail _ hy)]
 exact this ds fun x hx=>one x hx x hx
theorem jK {ds:List D} (hd:dNest ds=true):plains ds=true:=by
 obtain⟨one,_,_⟩:=cM hd
 have: ∀ l:List D,(∀ x∈l,same x x=true)→plains l=true:=fun l=>by
  induction l with
  | nil=>intro _;rfl
  | cons x l ih=>intro hl;simp [plains,bF (hl x (.head _)),ih fun y hy=>hl y (.tail _ hy)]
 exact this ds fun x hx=>one x hx x hx
theorem nS (hu:X.A.units+62<cLine) {pins:List (Addr×Obj)} {s:Shared} {σ:St} {H:Hp} {x:D} {v:V} {u:Value} {Q:VK} {E:Nat→Hp→Prop} {ds:List D} (I:Inv X pins σ H s) (hG:Same G H) (q:Seq X ad G H x v) (ru:RelV v u) (e1:items x=some ds) (hr:RK X.K ad G H (eB ds) Q E):
  wpAny (model X.prog X.w) X.A (call (.builtin "sorted") [u]) (EP X pins σ Q) X.xe s:=by
 unfold eB at hr
 by_cases hb:(dNest ds&&decide (ds.length<64))=true
 ·rw [if_pos hb] at hr
  rw [Bool.and_eq_true,decide_eq_true_eq] at hb
  obtain⟨hd,h64⟩:=hb
  obtain⟨p,vs,rfl,hq,rq⟩:=q.items hG e1
  cases (show u=Value.ref p from ru)
  obtain⟨T,o,its,n,hT,h1,h2,h3,hv⟩: ∃ T o its n,(T="list"∨T="tuple")∧s.heap.get? p=some o∧o.cls= .type T∧o.data= .seq (List.toArray its) n∧Vals vs its:=by
   rcases hq with z | z
   ·obtain⟨its,rv,⟨o,a,b,n,c⟩,_⟩:=I.tuple z.2
    exact⟨"tuple",o,its,n, .inr rfl,a,b,c,rv⟩
   ·obtain⟨its,rv,pl,_⟩:=I.list z.2
    obtain⟨o,a,b,n,c⟩:=pl.isList
    exact⟨"list",o,its,n, .inl rfl,a,b,c,rv⟩
  have l1:=rq.length
  have l2:=hv.length
  obtain⟨as,ra⟩:=bG I hG (jK hd) rq hv
  have hz:its.toArray.size≤sizeLine:=by rw [sizeLine_eq];simp;omega
  refine kR (Cd:=fun vs' h1 tk=>vs'=its∧(∀ b o,s.heap.get? b=some o→h1.get? b=some o)∧tk=s.toks) (by omega) (fun Q' hQ'=>wpAny_collect_seq (hsz:=hz) p hT h1 h2 h3 fun g1 k1=>hQ' _ g1 s.toks ⟨rfl,k1,rfl⟩) ?_
  rintro vs' g1 tk ⟨rfl,k1,rfl⟩
  refine⟨ds,as,aP (fun b o _ e=>k1 b o e) (vR hd) ra,hd,by omega,fun g2 pm e k2 at' gd st=> ?_⟩
  have I1:Inv X pins σ H { s with heap:=g1 }:=I.kept (t':=s.toks) k1
  have gs:=gd.size
  have lt: ∀ i∈pm.toList,i<vs.length:=fun i hi=>by
   have:=(Array.Perm.mem_iff gd).mp (Array.mem_def.mpr hi)
   have:i<vs'.length:=by simpa using this
   omega
  have hz:(pm.toList.map fun i=>vs.getD i V.non).length≤sizeLine:=by rw [List.length_map,Array.length_toList,gs,sizeLine_eq];omega
  refine⟨.ref g1.objs.size,_,I1.laid (t':=s.toks) k2 (Nat.le_refl _) (show ObjOk X.prog X.w _ g2 _ (.lst _) from⟨hz,_,e,jJ hv lt,at'⟩),rfl,hr.ow_new hG ?_ (I1.hok.fresh (Nat.le_refl _))⟩
  have hd':=jI rq (l:=pm.toList) fun i hi=>by rw [←l1];exact lt i hi
  rw [←aBt (n:=vs'.length) (cM hd).1 (by omega) gd st]
  exact hd'
 ·rw [if_neg hb] at hr
  exact hr.elim
theorem nT (hu:X.A.units+62<cLine):BOp X ad (.builtin "sorted") dSorted:=by
 intro pins s σ H G x v u Q E I hG q ru hr
 have hr':RK X.K ad G H (match items x with | some ds=>gF ds | none=> .bad) Q E:=hr
 cases e1:items x with
 | none=>rw [e1] at hr';exact hr'.elim
 | some ds=>
  rw [e1] at hr'
  have hr2:RK X.K ad G H (match dInts ds with
   | some ns=>if ns.length<64 then .ow ((sortI ns).map D.int) else .bad
   | none=>eB ds) Q E:=hr'
  cases e2:dInts ds with
  | some ns=>rw [e2] at hr2;exact fF I hG q ru e1 e2 hr2
  | none=>rw [e2] at hr2;exact nS hu I hG q ru e1 hr2
theorem yF (hh:X.A.handled=none) (hu:X.A.units+62<cLine) {pins:List (Addr×Obj)} {s:Shared} {σ:St} {H:Hp} {x:D} {v:V} {u:Value} {Q:VK} {E:Nat→Hp→Prop} {ds:List D} (I:Inv X pins σ H s) (hG:Same G H) (q:Seq X ad G H x v) (ru:RelV v u) (e:items x=some ds) (hr:RK X.K ad G H (dMinN ds) Q E):
  wpAny (model X.prog X.w) X.A (call (.builtin "min") [u]) (EP X pins σ Q) X.xe s:=by
 unfold dMinN at hr
 by_cases hd:dNest ds=true
 ·rw [if_pos hd] at hr
  obtain⟨one,tups,_⟩:=cM hd
  obtain⟨d0,r0,rfl⟩: ∃ d r,ds=d::r:=by
   cases ds with
   | nil=>cases hd
   | cons d r=>exact⟨d,r,rfl⟩
  have hr2:RK X.K ad G H (.ok (minD d0 r0)) Q E:=hr
  obtain⟨p,vs,rfl,hq,rq⟩:=q.items hG e
  have hq':SqL X.K H p vs∨SqT X.K H p vs:=hq.elim (fun z=> .inr z.2) fun z=> .inl z.2
  cases (show u=Value.ref p from ru)
  refine qL (bT (A:=X.A.in1) hh I hq' fun its s2 I' fp wr Stt rv W st hfp h1 h2 h3 h4 h5=> ?_)
  obtain⟨as,ra⟩:=bG I hG (jK hd) rq rv
  have ld:=rq.length
  have lv:=rv.length
  have hn:0<its.length:=by simp at ld;omega
  refine⟨I',fp,wr,_,its.length,_,_,fun i j=>ltD ((d0::r0).getD i .non) ((d0::r0).getD j .non),fun h=> ∀ b o,s.heap.get? b=some o→h.get? b=some o,rfl,W.toS,st,hfp,hn,⟨fun i j vi vj s' Q' E' hij hi hj hJ hQ=> ?_,fun h h' k hJ b o eb=> ?_⟩,h5,fun v s' hv m=> ?_⟩
  ·have ra':=aP (fun b o _ e=>hJ b o e) (vR hd) ra
   have hi':i<its.length:=(List.getElem?_eq_some_iff.mp hi).1
   have hj':j<its.length:=(List.getElem?_eq_some_iff.mp hj).1
   obtain⟨b1,r1⟩:=dC ra' (i:=i) (by omega)
   obtain⟨b2,r2⟩:=dC ra' (i:=j) (by omega)
   have gi:its.getD i .none=vi:=by rw [List.getD_eq_getElem?_getD,hi];rfl
   have gj:its.getD j .none=vj:=by rw [List.getD_eq_getElem?_getD,hj];rfl
   rw [gi] at r1
   rw [gj] at r2
   have mem: ∀ i,i<(d0::r0).length→(d0::r0).getD i .non∈d0::r0:=fun i hi=>by
    rw [List.getD_eq_getElem?_getD,List.getElem?_eq_getElem hi,Option.getD_some];exact List.getElem_mem hi
   exact aBr 8 _ _ vi vj b1 b2 _ s' Q' E' (one _ (mem i (by omega)) _ (mem j (by omega))) (tups _ (mem i (by omega))).2 r1 r2 (by have:=X.A.in1_units;omega) hQ
  ·refine k b o (fun z=> ?_) (hJ b o eb)
   rcases List.mem_cons.mp z with z | z
   ·have:=Heap.lt_size (h5 b o eb)
    rw [z] at this;exact Nat.lt_irrefl _ this
   ·exact h4 b o eb z
  ·have bd:=bestD (d0::r0) d0 r0 rfl (its.length - 1) (by omega)
   have tk:r0.take (its.length - 1)=r0:=List.take_of_length_le (by simp at ld;omega)
   rw [tk] at bd
   have hb:argBest (fun i j=>ltD ((d0::r0).getD i .non) ((d0::r0).getD j .non)) (its.length - 1)<(d0::r0).length:=by
    have:=dW (fun i j=>ltD ((d0::r0).getD i .non) ((d0::r0).getD j .non)) (its.length - 1)
    omega
   have ed:(d0::r0)[argBest (fun i j=>ltD ((d0::r0).getD i .non) ((d0::r0).getD j .non)) (its.length - 1)]? =some (minD d0 r0):=by
    rw [←bd,List.getD_eq_getElem?_getD,List.getElem?_eq_getElem hb];rfl
   obtain⟨v',e2,rp⟩:=rq.get ed
   obtain⟨u',e3,rv'⟩:=rv.get e2
   have e4:its[argBest (fun i j=>ltD ((d0::r0).getD i .non) ((d0::r0).getD j .non)) (its.length - 1)]? =some v:=hv
   rw [e4] at e3
   cases e3
   exact⟨v',H,I.moved h5 h4 h1 h2 h3 m,rv',hr2.ok_now hG rp⟩
 ·rw [if_neg hd] at hr;exact hr.elim
theorem t0 (hh:X.A.handled=none) (hu:X.A.units+62<cLine):BOp X ad (.builtin "min") dMin1:=by
 intro pins s σ H G x v u Q E I hG q ru hr
 have hr':RK X.K ad G H (match items x with | some ds=>dMinL ds | none=> .bad) Q E:=hr
 cases e:items x with
 | none=>rw [e] at hr';exact hr'.elim
 | some ds=>
  rw [e] at hr'
  have hr2:RK X.K ad G H (match dInts ds with
   | some ns=>(match ns with | n::r=> .ok (.int (minL n r)) | []=> .bad)
   | none=>dMinN ds) Q E:=hr'
  cases e2:dInts ds with
  | none=>rw [e2] at hr2;exact yF hh hu I hG q ru e hr2
  | some ns=>
   rw [e2] at hr2
   cases ns with
   | nil=>exact hr2.elim
   | cons n r=>exact kP hh I hG q ru e e2 hr2
end
section
variable {prog:Program} {w:World} {A:Around} {E:Value→Shared→Prop} {s:Shared}
end
section
variable {X:Cx} {ad:Ad} {a:Expr} {f:F} {p p2 pos pos2:Pos}
end
noncomputable def iv:Value→Int
 | .int n _=>n
 | _=>0
section
variable {X:Cx} {ad:Ad} {a:Expr} {f:F} {p p2 pos pos2:Pos}
theorem yG {i:Int} {cj:Nat} {cp kp:Pos} (hg:L2.Gl X "max") (hm:X.mg "max"=none) (hh:X.A.handled=none) (ha:ML X ad a f) (he:starEach [a] X.env=(false,eval a X.env)::starEach [] X.env):
  ME X ad (.Call (.Name "max" p) [a] [⟨some "default", .Constant (.int i) cj cp,kp⟩] pos) (rCall (dMaxD i) [f]):=by
 intro pins s σ H Q I ⟨G,ρ,E,hG,hS,hx,hr⟩
 unfold rCall at hr
 rw [eE] at hr
 refine wpAny_Call_Name_kw (bM (u:= .builtin "max") I hg hm (by decide+kernel) ?_ (by decide) (by decide))
 refine callWith_kw (L2.thn (aR ha bN he pos pins s σ H (fun vs H1=> ∃ v d G1,vs=[v]∧Step G H G1 H1∧Seq X ad G1 H1 d v∧RK X.K ad G1 H1 (dMaxD i [d]) Q E) I ?_) fun us s1 ⟨vs,H1,I1,r1,v,d,G1,e1,st,q,k⟩=> ?_) (by rw [he];rfl) (by rw [he];rfl) rfl rfl
 ·exact kH hG hS hx hr fun v d G1 H1 st q k=>⟨v,d,G1,rfl,st,q,k⟩
 ·subst e1
  obtain⟨u,rfl,ru⟩:=vals1 r1
  refine kws_cons (wpAny_Constant_int (kws_nil ?_))
  show wpAny _ _ (call (.builtin "max") [u] [(Str.ofString "default", .int i s1.toks)]) _ _ { s1 with toks:=s1.toks+1 }
  have I2:Inv X pins σ H1 { s1 with toks:=s1.toks+1 }:=I1.kept (t':=s1.toks+1) (h':=s1.heap) fun _ _ e=>e
  have k':RK X.K ad G1 H1 (match(items d).bind dInts with | some ns=> .ok (.int (maxD i ns)) | none=> .bad) Q E:=k
  cases e:items d with
  | none=>rw [e] at k';exact k'.elim
  | some ds=>
   rw [e] at k'
   have k2:RK X.K ad G1 H1 (match dInts ds with | some ns=> .ok (.int (maxD i ns)) | none=> .bad) Q E:=k'
   cases e2:dInts ds with
   | none=>rw [e2] at k2;exact k2.elim
   | some ns=>
    rw [e2] at k2
    obtain⟨b,vs,rfl,hq,rq⟩:=q.items st.gh e
    have hq':SqL X.K H1 b vs∨SqT X.K H1 b vs:=hq.elim (fun z=> .inr z.2) fun z=> .inl z.2
    cases (show u=Value.ref b from ru)
    have ev:=cD e2 rq
    subst ev
    refine qB (bT (A:=X.A.in1) hh I2 hq' fun its s2 I' fp wr Stt rv W st2 hfp h1 h2 h3 h4 h5=> ?_)
    have hl:its.length=ns.length:=by rw [←rv.length,List.length_map]
    refine⟨I',fp,wr,_,its.length,_,_,fun i=>ns.getD i 0,rfl,W.toS,st2,hfp,fun i v e=>fL rv e,fun z s' m=> ?_,fun z s' t' m=> ?_⟩
    ·have:ns=[]:=List.length_eq_zero_iff.mp (by omega)
     subst this
     exact⟨.int i,H1,I2.moved h5 h4 h1 h2 h3 m,⟨_,rfl⟩,k2.ok_now st.gh aD⟩
    ·cases ns with
     | nil=>rw [List.length_nil] at hl;omega
     | cons n ns=>
      refine⟨.int (maxL n ns),H1,I2.moved h5 h4 h1 h2 h3 m,⟨t', ?_⟩,k2.ok_now st.gh aD⟩
      have e3:((List.range its.length).drop 1).map (fun i=>(n::ns).getD i 0)=ns:=by
       rw [hl,List.length_cons,List.range_succ_eq_map,List.drop_one,List.tail_cons,List.map_map]
       apply List.ext_getElem
       ·simp
       ·intro j h1 h2
        simp [h2]
      rw [e3];rfl
end
section
variable {h h':Heap} {d:Addr} {o:Obj} {es:Array DictEntry} {ep:Nat}
theorem t3 (ho:h.get? d=some o) (hd:o.data= .dict es ep) (hs:Heap.SameBut d h h') {a:Addr} {u:Obj} {vs:Array Value} {n:Nat} (hu:h.get? a=some u) (hq:u.data= .seq vs n):h'.get? a=some u:=by
 have ne:a≠d:=fun z=>by
  subst z
  rw [ho] at hu
  cases hu
  rw [hd] at hq
  cases hq
 exact(hs.2 a ne).trans hu
mutual
theorem rk1 (ho:h.get? d=some o) (hd:o.data= .dict es ep) (hs:Heap.SameBut d h h'): ∀ (k:PyData) (v:Value) (as:List Addr),hk k=true→Reads h v k as→Reads h' v k as
 | .none,v,as,_,r=>by cases r;exact .none
 | .int i,v,as,_,r=>by cases r;exact .int _ _
 | .tuple xs,v,as,hk',r=>by
  cases r with
  | tuple h1 h2 h3 h4=>exact .tuple (t3 ho hd hs h1 h3) h2 h3 (rk2 ho hd hs xs _ _ (by simpa [hk] using hk') h4)
 | .bool _,_,_,h,_=>by simp [hk] at h
 | .str _,_,_,h,_=>by simp [hk] at h
 | .list _,_,_,h,_=>by simp [hk] at h
 | .dict _,_,_,h,_=>by simp [hk] at h
theorem rk2 (ho:h.get? d=some o) (hd:o.data= .dict es ep) (hs:Heap.SameBut d h h'): ∀ (ks:List PyData) (vs:List Value) (as:List Addr),hks ks=true→ReadsAll h vs ks as→ReadsAll h' vs ks as
 | [],_,_,_,r=>by cases r;exact .nil
 | k::ks,_,_,hk',r=>by
  rw [hks,Bool.and_eq_true] at hk'
  cases r with
  | cons r1 r2=>exact .cons (rk1 ho hd hs k _ _ hk'.1 r1) (rk2 ho hd hs ks _ _ hk'.2 r2)
end
end
mutual
theorem eqvR: ∀ x:PyData,hk x=true→PyData.eqv x x=true
 | .none,_=>by simp [PyData.eqv]
 | .int i,_=>by simp [PyData.eqv]
 | .tuple xs,h=>by
  rw [PyData.eqv]
  exact eqvRs xs (by simpa [hk] using h)
 | .bool _,h=>by simp [hk] at h
 | .str _,h=>by simp [hk] at h
 | .list _,h=>by simp [hk] at h
 | .dict _,h=>by simp [hk] at h
theorem eqvRs: ∀ xs:List PyData,hks xs=true→PyData.eqvAll xs xs=true
 | [],_=>by simp [PyData.eqvAll]
 | x::xs,h=>by
  rw [hks,Bool.and_eq_true] at h
  rw [PyData.eqvAll,eqvR x h.1,eqvRs xs h.2]
  rfl
end
noncomputable instance decPy:DecidableEq PyData:=fun a b=>Classical.propDecidable (a=b)
def KeyA (h:Heap) (d:PyData) (a:Addr):Prop:=hk d=true∧d.depth≤8∧ ∃ as,Reads h (.ref a) d as
noncomputable def nKind (prog:Program) (w:World):HeapKind prog w PyData where
 is:=KeyA
 hash:=hsh
 draws:=dr
 room:=fun A=>A.units+20<cLine
 inj:=fun {h a x y} k1 k2=>by
  obtain⟨a1,_,b1,c1⟩:=k1
  obtain⟨a2,_,b2,c2⟩:=k2
  exact SeqAt.Reads.unique x y _ b1 b2 (l8 _ a1) c1 c2
 keeps:=fun {h h' k a d o es ep} k1 ho hd hs=>by
  obtain⟨a1,a2,b1,c1⟩:=k1
  exact⟨a1,a2,b1,rk1 ho hd hs _ _ _ a1 c1⟩
 pyHash:=fun {A E s k a Q} hu k1 hq=>by
  obtain⟨a1,a2,b1,c1⟩:=k1
  exact yC 8 k _ b1 A s Q E a1 a2 c1 (by omega) hq
 eqBool:=fun {A E s x y a b Q} hu k1 k2 hq=>by
  obtain⟨a1,a2,b1,c1⟩:=k1
  obtain⟨a3,a4,b2,c2⟩:=k2
  have e:=SeqAt.eqAt_reads x y A s (.ref a) (.ref b) b1 b2 c1 c2 (l8 _ a1) (l8 _ a3) (by omega)
  refine e prog w E Q ?_
  by_cases z:x=y
  ·subst z
   rw [decide_eq_true rfl] at hq
   cases q:PyData.eqv x x with
   | true=>exact hq
   | false=>
    have:=eqvR x a1
    rw [this] at q;cases q
  ·rw [decide_eq_false z] at hq
   cases q:PyData.eqv x y with
   | false=>exact hq
   | true=>exact absurd (kQ x y a1 a3 q) z
 quiet:=fun {A E s k a Q} k1 hq=>by
  obtain⟨a1,a2,b1,c1⟩:=k1
  exact tY 8 k _ b1 A s Q E a1 a2 c1 hq
mutual
theorem dD: ∀ d:D,hkD d=true→plain d=true
 | .non,_=>by simp [plain]
 | .int _,_=>by simp [plain]
 | .tup xs,h=>by simpa [plain] using fW xs (by simpa [hkD] using h)
 | .bl _,h=>by simp [hkD] at h
 | .str _,h=>by simp [hkD] at h
 | .lst _,h=>by simp [hkD] at h
 | .exc _,h=>by simp [hkD] at h
 | .fn _,h=>by simp [hkD] at h
theorem fW: ∀ ds:List D,hkDs ds=true→plains ds=true
 | [],_=>by simp [plains]
 | d::ds,h=>by
  have h':hkD d=true∧hkDs ds=true:=by simpa [hkDs] using h
  simp [plains,dD d h'.1,fW ds h'.2]
end
mutual
theorem fX: ∀ d:D,hkD d=true→hk (toPy d)=true∧hsh (toPy d)=hD d
 | .non,_=>by simp [toPy,hk,hsh,hD]
 | .int _,_=>by simp [toPy,hk,hsh,hD]
 | .tup xs,h=>by
  have:=qM xs (by simpa [hkD] using h)
  simp [toPy,hk,hsh,hD,this.1,this.2]
 | .bl _,h=>by simp [hkD] at h
 | .str _,h=>by simp [hkD] at h
 | .lst _,h=>by simp [hkD] at h
 | .exc _,h=>by simp [hkD] at h
 | .fn _,h=>by simp [hkD] at h
theorem qM: ∀ ds:List D,hkDs ds=true→hks (toPys ds)=true∧hshs (toPys ds)=hDs ds
 | [],_=>by simp [toPys,hks,hshs,hDs]
 | d::ds,h=>by
  have h':hkD d=true∧hkDs ds=true:=by simpa [hkDs] using h
  have h1:=fX d h'.1
  have h2:=qM ds h'.2
  simp [toPys,hks,hshs,hDs,h1.1,h1.2,h2.1,h2.2]
end
theorem eX {k:D} (h:keyOk k=true):isTup0 k=true∧hkD k=true∧dep k≤8:=by
 simp only [keyOk,Bool.and_eq_true,decide_eq_true_eq] at h
 exact⟨h.1.1,h.1.2,h.2⟩
theorem mG {k l:D} (h1:keyOk k=true) (h2:keyOk l=true):deq k l=decide (toPy k=toPy l):=by
 have a1:=(eX h1).2.1
 have a2:=(eX h2).2.1
 rw [←b8 k l (dD k a1) (dD l a2)]
 by_cases z:toPy k=toPy l
 ·rw [decide_eq_true z,z];exact eqvR _ (fX l a2).1
 ·rw [decide_eq_false z]
  refine Bool.eq_false_iff.mpr fun q=>z (kQ _ _ (fX k a1).1 (fX l a2).1 q)
noncomputable def mkE (x:Int×Addr×Value):DictEntry:=⟨x.1, .ref x.2.1,x.2.2⟩
noncomputable def y3 (p:D×D) (x:Int×Addr×Value):PyData×Addr×Value:=(toPy p.1,x.2.1,x.2.2)
abbrev RX (p:Int×Addr×V) (q:Int×Addr×Value):Prop:=p.1=q.1∧p.2.1=q.2.1∧RelV p.2.2 q.2.2
noncomputable def putE (kvs:List (D×D)) (es:List (Int×Addr×V)) (k:D) (b:Addr) (v:V):List (Int×Addr×V):=
 if hasK kvs k then List.zipWith (fun p e=>if deq p.1 k then(e.1,e.2.1,v) else e) kvs es else es++[(hD k,b,v)]
noncomputable def putX (kvs:List (D×D)) (xs:List (Int×Addr×Value)) (k:D) (b:Addr) (u:Value):List (Int×Addr×Value):=
 if hasK kvs k then List.zipWith (fun p e=>if deq p.1 k then(e.1,e.2.1,u) else e) kvs xs else xs++[(hD k,b,u)]
section
variable {K:PySem.W.Frag} {ad:Ad} {G:Hp} {prog:Program} {w:World}
theorem qN {kvs:List (D×D)} {es:List (Int×Addr×V)} (h:DL K ad G kvs es):kvs.length=es.length:=Paired.length h
theorem aBu {k d:D} {b:Addr} {v:V} (hk:Rep K ad G k (.ref b)) (hd:Rep K ad G d v) {kvs:List (D×D)} {es:List (Int×Addr×V)} (h:DL K ad G kvs es):DL K ad G (putK kvs k d) (putE kvs es k b v):=by
 unfold putK putE
 split
 ·have go: ∀ {kvs:List (D×D)} {es:List (Int×Addr×V)},DL K ad G kvs es→DL K ad G (kvs.map (fun p=>if deq p.1 k then(p.1,d) else p)) (List.zipWith (fun p e=>if deq p.1 k then(e.1,e.2.1,v) else e) kvs es):=by
   intro kvs es h
   induction h with
   | nil=>exact .nil
   | @cons p q _ _ r _ ih=>
    refine .cons ?_ ih
    dsimp only
    by_cases z:deq p.1 k=true
    ·rw [if_pos z,if_pos z];exact⟨r.1,r.2.1,hd⟩
    ·rw [if_neg z,if_neg z];exact r
  exact go h
 ·exact Paired.snoc h ⟨rfl,hk,hd⟩
theorem nU {kvs:List (D×D)} {k:D} (h: ¬ hasK kvs k=true): ∀ p∈kvs,deq p.1 k=false:=fun p hp=>by
 refine Bool.eq_false_iff.mpr fun z=>h ?_
 unfold hasK
 exact List.any_eq_true.mpr ⟨p,hp,z⟩
theorem qO {kvs:List (D×D)} {k d:D} (h:KOk kvs) (hk:keyOk k=true):KOk (putK kvs k d):=by
 unfold putK
 split
 ·have e: ∀ p:D×D,(if deq p.1 k then(p.1,d) else p).1=p.1:=fun p=>by split<;>rfl
  refine⟨fun p hp=> ?_, ?_⟩
  ·obtain⟨q,hq,rfl⟩:=List.mem_map.mp hp
   rw [e];exact h.1 q hq
  ·refine List.pairwise_map.mpr (h.2.imp fun {p q} z=> ?_)
   rw [e,e];exact z
 ·rename_i hn
  refine⟨fun p hp=> ?_,List.pairwise_append.mpr ⟨h.2,List.pairwise_singleton _ _,fun p hp q hq=> ?_⟩⟩
  ·rcases List.mem_append.mp hp with z | z
   ·exact h.1 p z
   ·rw [List.mem_singleton.mp z];exact hk
  ·rw [List.mem_singleton.mp hq];exact nU hn p hp
theorem aBv {k:D} {b:Addr} {v:V} {u:Value} (r:RelV v u) (kvs:List (D×D)) {es:List (Int×Addr×V)} {xs:List (Int×Addr×Value)} (h:Paired RX es xs):Paired RX (putE kvs es k b v) (putX kvs xs k b u):=by
 unfold putE putX
 split
 ·have go: ∀ {es:List (Int×Addr×V)} {xs:List (Int×Addr×Value)},Paired RX es xs→ ∀ kvs:List (D×D),Paired RX (List.zipWith (fun p e=>if deq p.1 k then(e.1,e.2.1,v) else e) kvs es) (List.zipWith (fun p e=>if deq p.1 k then(e.1,e.2.1,u) else e) kvs xs):=by
   intro es xs h
   induction h with
   | nil=>intro kvs;cases kvs<;>exact .nil
   | @cons p q _ _ r' _ ih=>
    intro kvs
    cases kvs with
    | nil=>exact .nil
    | cons c kvs=>
     refine .cons ?_ (ih kvs)
     dsimp only
     by_cases z:deq c.1 k=true
     ·rw [if_pos z,if_pos z];exact⟨r'.1,r'.2.1,r⟩
     ·rw [if_neg z,if_neg z];exact r'
  exact go h kvs
 ·exact Paired.snoc h ⟨rfl,rfl,r⟩
abbrev HX (p:D×D) (x:Int×Addr×Value):Prop:=x.1=hD p.1
theorem aBw {kvs:List (D×D)} {es:List (Int×Addr×V)} {xs:List (Int×Addr×Value)} (hd:DL K ad G kvs es) (hx:Paired RX es xs):Paired HX kvs xs:=by
 induction hd generalizing xs with
 | nil=>cases hx;exact .nil
 | cons r _ ih=>
  cases hx with
  | cons r2 hx=>exact .cons (by show _=_;rw [←r2.1,r.1]) (ih hx)
theorem aBx {kvs:List (D×D)} {xs:List (Int×Addr×Value)} {k d:D} {b:Addr} {u:Value} (h:Paired HX kvs xs):Paired HX (putK kvs k d) (putX kvs xs k b u):=by
 unfold putK putX
 split
 ·have go: ∀ {kvs:List (D×D)} {xs:List (Int×Addr×Value)},Paired HX kvs xs→Paired HX (kvs.map (fun p=>if deq p.1 k then(p.1,d) else p)) (List.zipWith (fun p e=>if deq p.1 k then(e.1,e.2.1,u) else e) kvs xs):=by
   intro kvs xs h
   induction h with
   | nil=>exact .nil
   | @cons p q _ _ r _ ih=>
    refine .cons ?_ ih
    dsimp only
    by_cases z:deq p.1 k=true
    ·rw [if_pos z,if_pos z];exact r
    ·rw [if_neg z,if_neg z];exact r
  exact go h
 ·exact Paired.snoc h rfl
theorem vS {kvs:List (D×D)} {xs:List (Int×Addr×Value)} (h:Paired HX kvs xs) (hk: ∀ p∈kvs,keyOk p.1=true):(List.zipWith y3 kvs xs).map (entryOfKey (nKind prog w))=xs.map mkE:=by
 induction h with
 | nil=>rfl
 | @cons p x _ _ r _ ih=>
  show _::_=_::_
  rw [ih fun p hp=>hk p (.tail _ hp)]
  congr 1
  show(⟨hsh (toPy p.1), .ref x.2.1,x.2.2⟩:DictEntry)=⟨x.1, .ref x.2.1,x.2.2⟩
  rw [(fX p.1 (eX (hk p (.head _))).2.1).2, ←r]
theorem yH {h:Heap} {kvs:List (D×D)} {es:List (Int×Addr×V)} {xs:List (Int×Addr×Value)} (hr: ∀ k b,keyOk k=true→Rep K ad G k (.ref b)→KeyA h (toPy k) b) (hd:DL K ad G kvs es) (hx:Paired RX es xs) (hk: ∀ p∈kvs,keyOk p.1=true):
  (∀ y∈List.zipWith y3 kvs xs,KeyA h y.1 y.2.1)∧(List.zipWith y3 kvs xs).map (·.1)=kvs.map fun p=>toPy p.1:=by
 induction hd generalizing xs with
 | nil=>cases hx;exact⟨fun y hy=>by simp at hy,rfl⟩
 | @cons p q _ _ r _ ih=>
  cases hx with
  | @cons _ x _ xs r2 hx=>
   obtain⟨i2,i3⟩:=ih hx fun p hp=>hk p (.tail _ hp)
   have kp:=hk p (.head _)
   refine⟨fun y hy=> ?_, ?_⟩
   ·rcases List.mem_cons.mp hy with rfl | hy
    ·have:=hr p.1 q.2.1 kp r.2.1
     rw [r2.2.1] at this
     exact this
    ·exact i2 y hy
   ·show _::_=_::_
    rw [i3]
    rfl
theorem aBy {kvs:List (D×D)} {xs:List (Int×Addr×Value)} {k:D} (hk:keyOk k=true) (hl:kvs.length=xs.length) (ha: ∀ p∈kvs,keyOk p.1=true):(atKey (List.zipWith y3 kvs xs) (toPy k)).isSome=hasK kvs k:=by
 unfold atKey hasK
 rw [Option.isSome_map]
 induction kvs generalizing xs with
 | nil=>rfl
 | cons p kvs ih=>
  cases xs with
  | nil=>cases hl
  | cons x xs=>
   have i:=ih (xs:=xs) (by simpa using hl) fun p hp=>ha p (.tail _ hp)
   show((y3 p x::List.zipWith y3 kvs xs).find? _).isSome=_
   rw [List.find?_cons,List.any_cons,mG (ha p (.head _)) hk]
   show Option.isSome (match decide (toPy p.1=toPy k) with | true=>some (y3 p x) | false=>_)=_
   cases decide (toPy p.1=toPy k) with
   | true=>rfl
   | false=>exact i
theorem aBz {kvs:List (D×D)} {xs:List (Int×Addr×Value)} {k d:D} {b:Addr} {u:Value} (hk:keyOk k=true) (hl:kvs.length=xs.length) (ha: ∀ p∈kvs,keyOk p.1=true):
  storedH (List.zipWith y3 kvs xs) (toPy k) b u=List.zipWith y3 (putK kvs k d) (putX kvs xs k b u):=by
 unfold storedH putK putX
 rw [aBy hk hl ha]
 by_cases z:hasK kvs k=true
 ·rw [if_pos z,if_pos z,if_pos z]
  clear z
  induction kvs generalizing xs with
  | nil=>rfl
  | cons p kvs ih=>
   cases xs with
   | nil=>cases hl
   | cons x xs=>
    have i:=ih (xs:=xs) (by simpa using hl) fun p hp=>ha p (.tail _ hp)
    show putAt (toPy k) u (y3 p x)::_=y3 _ _::_
    rw [i]
    congr 1
    unfold putAt
    have e:=mG (ha p (.head _)) hk
    by_cases q:toPy p.1=toPy k
    ·rw [decide_eq_true q] at e
     have e1:(if(y3 p x).1=toPy k then((y3 p x).1,(y3 p x).2.1,u) else y3 p x)=((y3 p x).1,(y3 p x).2.1,u):=if_pos q
     rw [e1]
     dsimp only
     rw [if_pos e,if_pos e]
     rfl
    ·rw [decide_eq_false q] at e
     have e1:(if(y3 p x).1=toPy k then((y3 p x).1,(y3 p x).2.1,u) else y3 p x)=y3 p x:=if_neg q
     have e': ¬ deq p.1 k=true:=by rw [e];exact Bool.false_ne_true
     rw [e1]
     dsimp only
     rw [if_neg e',if_neg e']
 ·rw [if_neg z,if_neg z,if_neg z,List.zipWith_append hl]
  rfl
end
section
variable {X:Cx} {ad:Ad} {Z:(St→Nat→Hp→Prop)→Prop} {pins:List (Addr×Obj)} {s:Shared} {σ:St} {H G G₀:Hp} {ρ:Rho} {D':Ends} {E:St→Nat→Hp→Prop} {pos pos':Pos} {e:Expr} {f:F} {g h:FS} {st:Stmt} {sts:List Stmt}
theorem _root_.L2.Inv.big (I:Inv X pins σ H s):(s.heap.objs.size==sysModules)=false:=by
 obtain⟨o,_,_,ho,_⟩:=I.mod.glob
 have h:=Heap.lt_size (I.bk _ _ ho)
 have e:mainGlobals=3:=rfl
 have e2:sysModules=1:=rfl
 rw [e] at h
 rw [e2]
 exact beq_false_of_ne (fun z:s.heap.objs.size=1=>by have h2:(3:Nat)<s.heap.objs.size:=h;rw [z] at h2;exact absurd h2 (by decide))
theorem vT {h:Heap} {a:Addr} {es:Nat×List (Int×Addr×V)} (d:DcAt h a es):ObjOk X.prog X.w H h a (dcO a es):=by
 refine⟨d, ?_,fun h1 h2 d k=> ?_⟩
 ·obtain⟨_,_,o,_,_,ho,_⟩:=d
  exact⟨o,ho⟩
 ·obtain⟨z,l,o,ar,xs,ho,r⟩:=d
  exact⟨z,l,o,ar,xs,k _ ho,r⟩
noncomputable def tD0:TE:=fun _ H Q=> ∀ p,H p=none→Q (.ref p) (upd H p (dcO p (0,[])))
theorem t9:PE X (.Dict [] [] pos) tD0:=by
 intro pins s σ H Q I hq
 refine wpAny_Dict_empty ?_
 have hf:H s.heap.objs.size=none:=I.hok.fresh (Nat.le_refl _)
 refine⟨.ref s.heap.objs.size,upd H s.heap.objs.size (dcO s.heap.objs.size (0,[])),I.laid (t':=s.toks) (fun b u e=>Heap.get?_push_of_some _ e) (Nat.le_refl _) (vT ?_),rfl,hq _ hf⟩
 exact⟨I.big,by decide,_, #[],[],Heap.get?_push_size _ rfl,⟨rfl,rfl,rfl⟩,rfl,rfl, .nil⟩
theorem yI {i:Nat} {x:Str} {p:Pos} (hN:X.N.Nodup) (hi:X.N[i]? =some x) (hx:Loc X.env.scope x) (hs:swapsWith (.Dict [] [] p) (some (.Name x pos')) pos.line X.env=pure false) (hf:X.fn x=true∨X.env.scope.names.lookup x=some .local):
  MS X ad Z (.Assign [.Name x pos'] (.Dict [] [] p) pos) (sDNew i):=by
 refine PS.imp (oB hN hi hx t9 hs hf) ?_
 rintro D' σ H ⟨G₀,G,ρ,E,S,hx,hr⟩
 exact fun q n=>hr _ G _ (S.setNew (Step.own S.st.gh n) n ⟨q,(0,[]),rfl,S.st.gh.free n,aH, .nil,fun p hp=>by simp at hp, .nil⟩)
theorem mH {k:D} {b:Addr} (I:Inv X pins σ H s) (hG:Same G H) (hk:keyOk k=true) (r:Rep X.K ad G k (.ref b)):KeyA s.heap (toPy k) b:=by
 obtain⟨h1,h2,h3⟩:=eX hk
 obtain⟨as,q⟩:=bC I hG (dD k h2) r (u:= .ref b) rfl
 exact⟨(fX k h2).1,by rw [bZ];exact h3,as,q⟩
theorem qP {a:Addr} {es:Nat×List (Int×Addr×V)} {kvs:List (D×D)} (I:Inv X pins σ H s) (hG:Same G H) (ha:H a=some (dcO a es)) (hd:DR X.K ad G kvs es) (hk:KOk kvs):
  (a==sysModules)=false∧es.2.length≤200000∧ ∃ xs,Paired RX es.2 xs∧s.heap.DictOfH (nKind X.prog X.w) a (List.zipWith y3 kvs xs):=by
 obtain⟨⟨z,l,o,ar,xs,ho,he,hdat,hl,hx⟩,_,_⟩:=I.hok a _ ha
 obtain⟨o2,o3⟩:=yH (h:=s.heap) (fun k b h1 h2=>mH I hG h1 h2) hd hx hk.1
 refine⟨z,l,xs,hx,o,ar,es.1,ho,he,hdat, ?_,o2, ?_⟩
 ·rw [hl,vS (aBw hd hx) hk.1];rfl
 ·rw [o3]
  refine List.pairwise_map.mpr ?_
  have:=hk.2
  refine List.Pairwise.imp_of_mem ?_ this
  intro p q hp hq hn e
  rw [mG (hk.1 p hp) (hk.1 q hq),decide_eq_true e] at hn
  cases hn
noncomputable def rSetD (K:PySem.W.Frag) (ad:Ad):V→V→V→Hp→(Hp→Prop)→Prop:=fun o i v H Q=> ∃ a es b k G kvs,o= .ref a∧i= .ref b∧H a=some (dcO a es)∧Same G H∧DR K ad G kvs es∧KOk kvs∧Rep K ad G k (.ref b)∧keyOk k=true∧kvs.length<LIM∧ ∀ n,Q (upd H a (dcO a (n,putE kvs es.2 k b v)))
theorem uA {kvs:List (D×D)} {es:List (Int×Addr×V)} {k:D} {b:Addr} {v:V}:(putE kvs es k b v).length≤es.length+1:=by
 unfold putE
 split
 ·rw [List.length_zipWith];omega
 ·simp
theorem uB (hu:X.A.units+62<cLine):PSet X (rSetD X.K ad):=by
 intro pins s σ H o i v ov iv u Q I ro ri rv h
 obtain⟨a,es,b,k,G,kvs,rfl,rfl,ha,hG,hd,hko,rk,hk,hl,q⟩:=h
 cases ro
 cases ri
 obtain⟨hz,hln,xs,hx,hm⟩:=qP I hG ha hd hko
 have hlen:kvs.length=xs.length:=(qN hd).trans (Paired.length hx)
 have hle:=qN hd
 have hlim:LIM=100000:=rfl
 refine wpAny_mono (wpAny_setItem_heap (knd:=nKind X.prog X.w) (show X.A.in1.units+20<cLine by have:=X.A.in1_units;omega) (mH I hG hk rk) hm (fun h' hm' hs=> ?_) (by rw [List.length_zipWith];exact Nat.le_trans (Nat.min_le_left _ _) (Nat.le_trans (Nat.le_of_lt hl) (by decide)))) (fun _ _ z=>z) fun _ _ z=>z
 rw [aBz (d:= .non) hk hlen hko.1] at hm'
 obtain⟨o',ar',ep',ho',he',hdat',hl',_⟩:=hm'
 refine⟨_,I.write (x:=a) (e:=a) (t':=_) (by rw [ha];trivial) (.inl rfl) (fun c u' hc qc=>(hs.2 c hc).trans qc) ⟨_,ho'⟩ (vT ?_),q ep'⟩
 have hx':=aBv (k:=k) (b:=b) rv kvs hx
 refine⟨hz,by have:= @uA kvs es.2 k b v;show(putE kvs es.2 k b v).length≤200000;omega,o',ar',_,ho',he',hdat', ?_,hx'⟩
 rw [hl',vS (aBx (aBw hd hx)) (qO hko hk).1]
 rfl
end
section
variable {X:Cx} {ad:Ad} {Z:(St→Nat→Hp→Prop)→Prop} {pins:List (Addr×Obj)} {s:Shared} {σ:St} {H G G₀:Hp} {ρ:Rho} {D':Ends} {E:St→Nat→Hp→Prop} {pos pos':Pos} {e:Expr} {f:F} {g h:FS} {st:Stmt} {sts:List Stmt}
noncomputable def rSetB (K:PySem.W.Frag) (ad:Ad):V→V→V→Hp→(Hp→Prop)→Prop:=fun o i v H Q=>rSetL o i v H Q∨rSetD K ad o i v H Q
theorem uC (hu:X.A.units+62<cLine):PSet X (rSetB X.K ad):=fun pins s σ H o i v ov iv u Q I ro ri rv h=>
 h.elim (lG pins s σ H o i v ov iv u Q I ro ri rv) (uB hu pins s σ H o i v ov iv u Q I ro ri rv)
theorem g0 {k:D} {v:V} (hk:keyOk k=true) (r:Rep X.K ad G k v): ∃ b,v= .ref b:=by
 have h:=(eX hk).1
 cases k<;>try (cases h;done)
 unfold Rep at r
 obtain⟨a,_,rfl,_⟩:=r
 exact⟨a,rfl⟩
theorem aB0 {i:Nat} {x:Str} {p tp:Pos} {kx:Expr} {fk:F} (hu:X.A.units+62<cLine) (hN:X.N[i]? =some x) (hv:Vis X.env.scope x) (hd:(x==("__debug__":Str))=false) (hcd:(x==("__classdict__":Str))=false) (he:ME X ad e f) (hk:ME X ad kx fk)
  (ha: ∀ v,assign (.Subscript (.Name x p) kx tp) X.env v=(do
   let ov←holding [v] (eval (.Name x p) X.env)
   let iv←holding [v,ov] (eval kx X.env)
   standAt tp
   holding [v,ov,iv] (setItem ov iv v)
   release [v,ov,iv] [])) (hs:swapsWithSole [.Subscript (.Name x p) kx tp] e pos.line X.env=pure false) (hw:swappedStores [.Subscript (.Name x p) kx tp] e X.env=pure none):
  MS X ad Z (.Assign [.Subscript (.Name x p) kx tp] e pos) (sPut i fk f):=by
 refine PS.imp (vA he (zY (bL hN hv hd hcd) hk (uC (ad:=ad) hu) ha) hs hw rfl) ?_
 rintro D' σ H ⟨G₀,G,ρ,E,S,hx,hr⟩
 unfold sPut at hr
 refine bO S hx hr fun v d G1 H1 st r k=> ?_
 cases q:ρ[i]? with
 | none=>rw [q] at k;exact k.elim
 | some sl=>
  rw [q] at k
  cases sl with
  | no=>exact k.elim
  | sh d=>exact k.elim
  | sd d=>exact k.elim
  | ow xs=>
   obtain⟨a,vs,h1,h2,h3,h4⟩:=(S.step st).sl.ow q
   refine⟨.ref a,h1, ?_⟩
   refine bO (S.step st) hx k fun v2 y G2 H2 st2 r2 k2=> ?_
   obtain⟨g2,h2'⟩:=aZ st2 h2 h3
   cases y<;>try exact False.elim k2
   rename_i j
   unfold Rep at r2;subst r2
   have k':OKo X ad G₀ (match ixD xs.length j with | some m=> .nx (ρ.set i (.ow (xs.set m d))) | none=> .rt .bad) D' E:=k2
   cases q2:ixD xs.length j with
   | none=>rw [q2] at k';exact k'.elim
   | some m=>
    rw [q2] at k'
    have r4:=h4.mono st2.sg
    refine .inl ⟨a,vs,j,m,rfl,rfl,h2',by rw [h4.length, ←lM];exact q2, ?_⟩
    exact k' σ G2 _ (((S.step st).step st2).upd q h1 g2 (Reps.set (r.mono st2.sg) m r4))
  | dc kvs=>
   obtain⟨a,es,h1,h2,h3,h4,h5⟩:=(S.step st).sl.dc q
   refine⟨.ref a,h1, ?_⟩
   refine bO (S.step st) hx k fun v2 y G2 H2 st2 r2 k2=> ?_
   have S2:=(S.step st).step st2
   obtain⟨a',es',h1',h2',h3',h4',h5'⟩:=S2.sl.dc q
   have ea:a'=a:=by rw [h1] at h1';cases h1';rfl
   subst ea
   have k':OKo X ad G₀ (if(keyOk y&&decide (kvs.length<LIM))=true then .nx (ρ.set i (.dc (putK kvs y d))) else .rt .bad) D' E:=k2
   by_cases hc:(keyOk y&&decide (kvs.length<LIM))=true
   ·rw [if_pos hc] at k'
    rw [Bool.and_eq_true,decide_eq_true_eq] at hc
    obtain⟨b,rfl⟩:=g0 hc.1 r2
    refine .inr ⟨a',es',b,y,G2,kvs,rfl,rfl,h3',st2.gh,h4',h5',r2,hc.1,hc.2, ?_⟩
    exact fun n=>k' σ G2 _ (S2.updG q rfl h1 ⟨a',_,rfl,h2',aH,aBu r2 (r.mono st2.sg) h4',qO h5' hc.1⟩)
   ·rw [if_neg hc] at k'
    exact k'.elim
theorem RK.bool_share {a:Addr} {vs:List V} {r:R} {Q:VK} {E:Nat→Hp→Prop} (hb:(∃ b,r= .ok (.bl b))∨r= .bad) (g:G a=none) (k:RK X.K ad G H r Q E):RK X.K ad (upd G a (.lst vs)) H r Q E:=by
 rcases hb with ⟨b,rfl⟩ | rfl
 ·intro v G1 H1 st q
  have q':v= .bl b:=by unfold Rep at q;exact q
  subst q'
  refine k (.bl b) (fun c=>if c=a then none else G1 c) H1 ⟨fun c u e=> ?_,fun c u e=> ?_,st.sh,fun c e1 e2=> ?_⟩ aK
  ·have ne:c≠a:=aY e g
   show(if c=a then none else G1 c)=some u
   rw [if_neg ne]
   exact st.sg c u (by rw [aF ne];exact e)
  ·have e':(if c=a then none else G1 c)=some u:=e
   by_cases z:c=a
   ·rw [if_pos z] at e';cases e'
   ·rw [if_neg z] at e';exact st.gh c u e'
  ·have e':(if c=a then none else G1 c)≠none:=e2
   by_cases z:c=a
   ·rw [if_pos z] at e';exact absurd rfl e'
   ·rw [if_neg z] at e';exact st.nw c (by rw [aF z];exact e1) e'
 ·exact k
theorem kS {op:CmpOp} {x y:D} {v w:V} {u z:Value} {Q:VK} {E:Nat→Hp→Prop} (hu:X.A.units+62<cLine) (I:Inv X pins σ H s) (hG:Same G H) (qx:Seq X ad G H x v) (qy:Seq X ad G H y w) (ru:RelV v u) (rz:RelV w z)
  (k:RK X.K ad G H (dCmp op x y) Q E):wpAny (model X.prog X.w) X.A (compareOp op u z) (EP X pins σ Q) X.xe s:=by
 have hb:=oO (op:=op) (x:=x) (y:=y)
 -- the left one is shared for the time
 have sh: ∀ {G:Hp} {a:Addr} {vs:List V} {ds:List D},Same G H→H a=some (.lst vs)→Reps X.K ad G ds vs→Same (upd G a (.lst vs)) H∧Rep X.K ad (upd G a (.lst vs)) (.lst ds) (.ref a):=fun {G a vs ds} hG h2 h3=>by
  have st:G a=none∨G a=some (.lst vs):=by
   cases q:G a with
   | none=>exact .inl rfl
   | some o=>rw [hG a o q] at h2;exact .inr h2
  have le:Same G (upd G a (.lst vs)):=fun b o e=>by
   by_cases zb:b=a
   ·subst zb
    rcases st with q | q
    ·rw [q] at e;cases e
    ·rw [aH, ←q];exact e
   ·rw [aF zb];exact e
  refine⟨fun b o e=> ?_, ?_⟩
  ·by_cases zb:b=a
   ·subst zb;rw [aH] at e;cases e;exact h2
   ·rw [aF zb] at e;exact hG b o e
  ·unfold Rep
   exact⟨a,vs,rfl,SqL.of aH,h3.mono le⟩
 have mo: ∀ {G:Hp} {a:Addr} {vs:List V},G a=none→Same G (upd G a (.lst vs)):=fun g=>Same.upd_new g
 have right: ∀ {G:Hp},Same G H→Rep X.K ad G x v→Seq X ad G H y w→RK X.K ad G H (dCmp op x y) Q E→wpAny (model X.prog X.w) X.A (compareOp op u z) (EP X pins σ Q) X.xe s:=fun {G} hG rx qy k=>by
  rcases qy with ry | ⟨a,vs,ds,rfl,rfl,g1,h2,h3⟩
  ·exact eM op hu pins s σ H G x y v w u z Q E I hG rx ry ru rz k
  ·obtain⟨s1,s2⟩:=sh hG h2 h3
   exact eM op hu pins s σ H _ x _ v _ u z Q E I s1 (rx.mono (mo g1)) s2 ru rz (k.bool_share hb g1)
 rcases qx with rx | ⟨a,vs,ds,rfl,rfl,g1,h2,h3⟩
 ·exact right hG rx qy k
 ·obtain⟨s1,s2⟩:=sh hG h2 h3
  refine right s1 s2 ?_ (k.bool_share hb g1)
  rcases qy with ry | ⟨a',vs',ds',rfl,rfl,g1',h2',h3'⟩
  ·exact .inl (ry.mono (mo g1))
  ·by_cases za:a'=a
   ·subst za
    rw [h2] at h2'
    cases h2'
    refine .inl ?_
    unfold Rep
    exact⟨a',vs,rfl,SqL.of aH,h3'.mono (mo g1)⟩
   ·exact .inr ⟨a',vs',ds',rfl,rfl,by rw [aF za];exact g1',h2',h3'.mono (mo g1)⟩
theorem qQ {op:CmpOp} {a b:Expr} {f g:F} {Q:VK} {E:Nat→Hp→Prop} (hu:X.A.units+62<cLine) (ha:MLk X ad a f) (hb:MLk X ad b g) (I:Inv X pins σ H s) (hG:Same G H) (hS:SL X.K ad G H ρ σ) (hx:XP X ad σ E) (hr:RK X.K ad G H (rCmp op f g ρ) Q E):
  wpAny (model X.prog X.w) X.A (eval a X.env) (fun u s1=>wpAny (model X.prog X.w) X.A (eval b X.env) (fun z s2=>wpAny (model X.prog X.w) X.A (compareOp op u z) (EP X pins σ Q) X.xe s2) X.xe s1) X.xe s:=by
 refine L2.thn (ha pins s σ H G ρ (fun x=>(g ρ).bind fun y=>dCmp op x y) Q E I hG hS hx hr) fun u s1 hz1=> ?_
 obtain⟨v,d1,G1,H1,I1,r1,st1,q1,k1⟩:=hz1
 refine L2.thn (hb pins s1 σ H1 G1 ρ (fun y=>dCmp op d1 y) Q E I1 st1.gh (hS.step st1) hx k1) fun z s2 hz2=> ?_
 obtain⟨w,d2,G2,H2,I2,r2,st2,q2,k2⟩:=hz2
 exact kS hu I2 st2.gh (Seq.step q1 st2) q2 r1 r2 k2
theorem yJ {op:CmpOp} {a b:Expr} {f g:F} (hu:X.A.units+62<cLine) (ha:MLk X ad a f) (hb:MLk X ad b g) (hm:behindInMarks op b=false):ME X ad (.Compare a [op] [b] pos) (rCmp op f g):=by
 intro pins s σ H Q I ⟨G,ρ,E,hG,hS,hx,hr⟩
 exact wpAny_Compare1 (qQ hu ha hb I hG hS hx hr) hm
theorem mI {op:CmpOp} {a b:Expr} {F':F} (hm:behindInMarks op b=false)
  (go: ∀ {pins:List (Addr×Obj)} {s:Shared} {σ:St} {H G:Hp} {ρ:Rho} {Q:VK} {E:Nat→Hp→Prop},Inv X pins σ H s→Same G H→SL X.K ad G H ρ σ→XP X ad σ E→RK X.K ad G H (F' ρ) Q E→
   wpAny (model X.prog X.w) X.A (eval a X.env) (fun u s1=>wpAny (model X.prog X.w) X.A (eval b X.env) (fun z s2=>wpAny (model X.prog X.w) X.A (compareOp op u z) (EP X pins σ Q) X.xe s2) X.xe s1) X.xe s):MT X ad (.Compare a [op] [b] pos) F':=by
 intro pins s σ H Q I ⟨G,ρ,E,hG,hS,hx,ht,hr⟩
 refine wpAny_isTrue_Compare1 (L2.thn (go I hG hS hx hr) fun v s1 h1=>L2.thn h1 fun u s2 h2=>L2.thn h2 fun c s3 hz=> ?_) hm
 obtain⟨x,H1,I1,r1,k,e,q⟩:=hz
 subst e
 cases r1
 exact wpAny_truthy_bool ⟨H1,I1,q⟩
theorem yK {op:CmpOp} {a b:Expr} {f g:F} (hu:X.A.units+62<cLine) (ha:MLk X ad a f) (hb:MLk X ad b g) (hm:behindInMarks op b=false):MT X ad (.Compare a [op] [b] pos) (rCmp op f g):=
 mI hm fun I hG hS hx hr=>qQ hu ha hb I hG hS hx hr
theorem kT {x y:Value} {A:Around} {E':Value→Shared→Prop} {Q:Bool→Shared→Prop} (h:wpAny (model X.prog X.w) A (compareOp .In x y) (fun v s=> ∃ b,v= .bool b∧Q b s) E' s):wpAny (model X.prog X.w) A (contains y x) Q E' s:=fun Γ p hΓ=>by
 have t:=h Γ p hΓ
 rw [show compareOp .In x y=(contains y x >>= fun b=>pure (.bool b)) from rfl,Sem.wp_bind'] at t
 refine Sem.wp_mono _ _ _ (fun b p' s' q=> ?_) (fun _ _ _ q=>q) _ _ t
 rw [Sem.wp_pure'] at q
 obtain⟨b',e,q⟩:=q
 cases e
 exact q
theorem qR {op:CmpOp} {x:D} {v:V} {u:Value} {a:Addr} {es:Nat×List (Int×Addr×V)} {kvs:List (D×D)} {Q:VK} {E:Nat→Hp→Prop} (hu:X.A.units+62<cLine) (I:Inv X pins σ H s) (hG:Same G H) (ru:RelV v u) (rx:Rep X.K ad G x v) (hk:keyOk x=true)
  (ha:H a=some (dcO a es)) (hd:DR X.K ad G kvs es) (hko:KOk kvs) (k:RK X.K ad G H (inK op (hasK kvs x)) Q E):wpAny (model X.prog X.w) X.A (compareOp op u (.ref a)) (EP X pins σ Q) X.xe s:=by
 obtain⟨b,rfl⟩:=g0 hk rx
 cases ru
 obtain⟨hz,hln,xs,hx,hm⟩:=qP I hG ha hd hko
 have hlen:kvs.length=xs.length:=(qN hd).trans (Paired.length hx)
 have go:wpAny (model X.prog X.w) X.A (contains (.ref a) (.ref b)) (fun c s'=>c=hasK kvs x∧Inv X pins σ H s') X.xe s:=by
  refine kT (wpAny_in_heap (knd:=nKind X.prog X.w) (show X.A.in1.units+20<cLine by have:=X.A.in1_units;omega) (mH I hG hk rx) hz hm ⟨_,rfl, ?_⟩)
  rw [aBy hk hlen hko.1]
  exact⟨rfl,I.tok _⟩
 cases op<;>try exact False.elim k
 ·rw [show compareOp .In (.ref b) (.ref a)=(contains (.ref a) (.ref b) >>= fun b=>pure (.bool b)) from rfl]
  refine wpAny_bind (L2.thn go fun c s' hc=>wpAny_pure ?_)
  obtain⟨rfl,I'⟩:=hc
  exact⟨.bl _,H,I',rfl,k.ok_now hG aK⟩
 ·rw [show compareOp .NotIn (.ref b) (.ref a)=(contains (.ref a) (.ref b) >>= fun b=>pure (.bool !b)) from rfl]
  refine wpAny_bind (L2.thn go fun c s' hc=>wpAny_pure ?_)
  obtain⟨rfl,I'⟩:=hc
  exact⟨.bl _,H,I',rfl,k.ok_now hG aK⟩
theorem vU {op:CmpOp} {a:Expr} {f:F} {i:Nat} {x:Str} {p:Pos} {Q:VK} {E:Nat→Hp→Prop} (hN:X.N[i]? =some x) (hv:Vis X.env.scope x) (hd:(x==("__debug__":Str))=false) (hcd:(x==("__classdict__":Str))=false) (hu:X.A.units+62<cLine) (ha:MLk X ad a f) (I:Inv X pins σ H s) (hG:Same G H) (hS:SL X.K ad G H ρ σ) (hx:XP X ad σ E) (hr:RK X.K ad G H (rInS op f i ρ) Q E):
  wpAny (model X.prog X.w) X.A (eval a X.env) (fun u s1=>wpAny (model X.prog X.w) X.A (eval (.Name x p) X.env) (fun z s2=>wpAny (model X.prog X.w) X.A (compareOp op u z) (EP X pins σ Q) X.xe s2) X.xe s1) X.xe s:=by
 refine L2.thn (ha pins s σ H G ρ (fun x=>match ρ[i]? with
  | some (.dc kvs)=>if keyOk x then inK op (hasK kvs x) else .bad
  | some (.sd kvs)=>if keyOk x then inK op (hasK kvs x) else .bad
  | some (.sh y)=>dCmp op x y
  | some (.ow ys)=>dCmp op x (.lst ys)
  | _=> .bad) Q E I hG hS hx hr) fun u s1 hz1=> ?_
 obtain⟨v,d1,G1,H1,I1,r1,st1,q1,k1⟩:=hz1
 have S1:=hS.step st1
 cases e:ρ[i]? with
 | none=>rw [e] at k1;exact k1.elim
 | some sl=>
  rw [e] at k1
  have look: ∀ (w:V),σ[i]? =some (some w)→(∀ z s2,Inv X pins σ H1 s2→RelV w z→wpAny (model X.prog X.w) X.A (compareOp op u z) (EP X pins σ Q) X.xe s2)→
    wpAny (model X.prog X.w) X.A (eval (.Name x p) X.env) (fun z s2=>wpAny (model X.prog X.w) X.A (compareOp op u z) (EP X pins σ Q) X.xe s2) X.xe s1:=fun w h1 h=>by
   refine L2.thn (bL hN hv hd hcd pins s1 σ H1 (fun v' H'=>v'=w∧H'=H1) I1 ⟨w,h1,rfl,rfl⟩) fun z s2 hz_=> ?_
   obtain⟨v',H',I2,r2,e1,e2⟩:=hz_
   subst e1;subst e2
   exact h z s2 I2 r2
  cases sl with
  | no=>exact k1.elim
  | sh y=>
   obtain⟨w,h1,h2⟩:=S1.sh e
   exact look w h1 fun z s2 I2 r2=>kS hu I2 st1.gh q1 (.inl h2) r1 r2 k1
  | ow ys=>
   obtain⟨b,vs,h1,h2,h3,h4⟩:=S1.ow e
   exact look _ h1 fun z s2 I2 r2=>kS hu I2 st1.gh q1 (.inr ⟨b,vs,ys,rfl,rfl,h2,h3,h4⟩) r1 r2 k1
  | dc kvs=>
   obtain⟨b,es,h1,h2,h3,h4,h5⟩:=S1.dc e
   have k2:RK X.K ad G1 H1 (if keyOk d1=true then inK op (hasK kvs d1) else .bad) Q E:=k1
   by_cases hk:keyOk d1=true
   ·rw [if_pos hk] at k2
    refine look _ h1 fun z s2 I2 r2=> ?_
    cases r2
    rcases q1 with q1 | ⟨_,_,ds,rfl,_⟩
    ·exact qR hu I2 st1.gh r1 q1 hk h3 h4 h5 k2
    ·exact absurd (eX hk).1 Bool.false_ne_true
   ·rw [if_neg hk] at k2
    exact k2.elim
  | sd kvs=>
   obtain⟨b,es,h1,h2,h3,h4,h5⟩:=S1.sd e
   have k2:RK X.K ad G1 H1 (if keyOk d1=true then inK op (hasK kvs d1) else .bad) Q E:=k1
   by_cases hk:keyOk d1=true
   ·rw [if_pos hk] at k2
    refine look _ h1 fun z s2 I2 r2=> ?_
    cases r2
    rcases q1 with q1 | ⟨_,_,ds,rfl,_⟩
    ·exact qR hu I2 st1.gh r1 q1 hk h3 h4 h5 k2
    ·exact absurd (eX hk).1 Bool.false_ne_true
   ·rw [if_neg hk] at k2
    exact k2.elim
theorem aB1 {op:CmpOp} {a:Expr} {f:F} {i:Nat} {x:Str} {p:Pos} (hN:X.N[i]? =some x) (hv:Vis X.env.scope x) (hd:(x==("__debug__":Str))=false) (hcd:(x==("__classdict__":Str))=false) (hu:X.A.units+62<cLine) (ha:MLk X ad a f) (hm:behindInMarks op (.Name x p)=false):ME X ad (.Compare a [op] [.Name x p] pos) (rInS op f i):=by
 intro pins s σ H Q I ⟨G,ρ,E,hG,hS,hx,hr⟩
 exact wpAny_Compare1 (vU hN hv hd hcd hu ha I hG hS hx hr) hm
theorem aB2 {op:CmpOp} {a:Expr} {f:F} {i:Nat} {x:Str} {p:Pos} (hN:X.N[i]? =some x) (hv:Vis X.env.scope x) (hd:(x==("__debug__":Str))=false) (hcd:(x==("__classdict__":Str))=false) (hu:X.A.units+62<cLine) (ha:MLk X ad a f) (hm:behindInMarks op (.Name x p)=false):MT X ad (.Compare a [op] [.Name x p] pos) (rInS op f i):=
 mI hm fun I hG hS hx hr=>vU hN hv hd hcd hu ha I hG hS hx hr
noncomputable def rRem:V→List V→Hp→VK→Prop:=fun x vs H Q=> ∃ (l:Addr) (ns:List Int) (j:Int),x= .ref l∧vs=[.int j]∧H l=some (.lst (ns.map V.int))∧j∈ns∧Q .non (upd H l (.lst ((ns.erase j).map V.int)))
theorem dF: ∀ {xs:List V} {us:List Value} (k:Nat),Vals xs us→Vals (xs.eraseIdx k) (us.eraseIdx k)
 | _,_,_, .nil=> .nil
 | _,_,0, .cons _ t=>t
 | _,_,k+1, .cons r t=> .cons r (dF k t)
theorem jL: ∀ (ns:List Int) (k:Nat),(ns.eraseIdx k).map V.int=(ns.map V.int).eraseIdx k
 | [],_=>rfl
 | _::_,0=>rfl
 | n::ns,k+1=>congrArg (V.int n:: ·) (jL ns k)
theorem g9 {ns:List Int} {k:Nat} (h:k<ns.length):ns.getD k 0=ns[k]:=by simp [List.getD,List.getElem?_eq_getElem h]
theorem qS:MtM X "list.remove" rRem:=by
 intro pins s σ H x vs v us Q I rx rv h
 obtain⟨l,ns,j,rfl,rfl,hH,hj,q⟩:=h
 cases rx
 obtain⟨u,rfl,t,rfl⟩:=rv.one
 obtain⟨z,its,n,r,hl,e⟩:=I.lstM hH
 have hlen:=r.length
 rw [List.length_map] at hlen
 have at_: ∀ (k:Nat) (hk:k<its.toArray.size), ∃ t',its.toArray[k]= .int (ns.getD k 0) t':=fun k hk=>by
  have hk':k<ns.length:=by rw [List.size_toArray] at hk;omega
  obtain⟨w,e1,t',e2⟩:=r.get (i:=k) (x:= .int (ns.getD k 0)) (by rw [List.getElem?_map,List.getElem?_eq_getElem hk',g9 hk'];rfl)
  refine⟨t', ?_⟩
  have:its.toArray[k]? =some w:=by simpa using e1
  rw [Array.getElem?_eq_getElem hk] at this
  rw [Option.some.inj this,e2]
 let ef:Value→Bool:=fun y=>match y with | .int a _=>a==j | _=>false
 have hi:ns.idxOf j<ns.length:=List.idxOf_lt_length_of_mem hj
 have he: ∀ y,y∈its.toArray→MeetsSeq.EqGives y (.int j t) (ef y):=fun y hy=>by
  obtain⟨k,hk,rfl⟩:=Array.mem_iff_getElem.mp hy
  obtain⟨t',e'⟩:=at_ k hk
  rw [e']
  exact MeetsSeq.EqGives.int _ _ _ _
 have hsz:its.toArray.size≤sizeLine:=by rw [List.size_toArray];rw [List.length_map] at z;omega
 refine call_meets F.slot_list_remove ⟨_,e,rfl⟩ F.entry_list_remove (F.args_list_remove_2 _ _)
  (MeetsSeq.list_remove l its.toArray n (.int j t) ef he (ns.idxOf j) (by rw [List.size_toArray];omega) ?_ ?_ hsz) ⟨e, ?_⟩
 ·obtain⟨t',e'⟩:=at_ (ns.idxOf j) (by rw [List.size_toArray];omega)
  rw [e']
  show(ns.getD (ns.idxOf j) 0==j)=true
  rw [g9 hi,List.getElem_idxOf]
  exact beq_self_eq_true j
 ·intro m hm hlt
  obtain⟨t',e'⟩:=at_ m hm
  rw [e']
  show(ns.getD m 0==j)=false
  have hm':m<ns.length:=by omega
  rw [g9 hm']
  have:=List.not_of_lt_findIdx (p:=(· ==j)) (xs:=ns) (i:=m) hlt
  simpa using this
 ·have el:ns.erase j=ns.eraseIdx (ns.idxOf j):=List.erase_eq_eraseIdx_of_idxOf rfl
  refine⟨.non,_,I.lset (its':=its.eraseIdx (ns.idxOf j)) (ys:=(ns.erase j).map V.int) hH e ?_ ?_ ?_,rfl,q⟩
  ·simp
  ·rw [el,jL];exact dF _ r
  ·rw [List.length_map] at z ⊢
   exact Nat.le_trans (List.length_erase_le) z
theorem mJ: ∀ {xs:List D} {ns:List Int},dInts xs=some ns→xs=ns.map D.int
 | [],ns,h=>by cases h;rfl
 | .int i::r,ns,h=>by
  obtain⟨ms,h1,rfl⟩:=zMd (show(dInts r).map (i:: ·)=some ns from h)
  rw [mJ h1];rfl
 | .non::_,_,h=>by cases h
 | .bl _::_,_,h=>by cases h
 | .str _::_,_,h=>by cases h
 | .tup _::_,_,h=>by cases h
 | .lst _::_,_,h=>by cases h
 | .exc _::_,_,h=>by cases h
 | .fn _::_,_,h=>by cases h
theorem mK {K:PySem.W.Frag}: ∀ {ns:List Int} {vs:List V},Reps K ad G (ns.map D.int) vs→vs=ns.map V.int
 | [],vs,h=>by simp only [List.map_nil] at h;unfold Reps at h;rw [h];rfl
 | n::ns,vs,h=>by
  simp only [List.map_cons] at h
  unfold Reps at h
  obtain⟨v,r,rfl,h1,h2⟩:=h
  unfold Rep at h1
  rw [h1,mK h2];rfl
theorem vV {K:PySem.W.Frag}: ∀ (ns:List Int),Reps K ad G (ns.map D.int) (ns.map V.int)
 | []=>by simp only [List.map_nil];unfold Reps;rfl
 | n::ns=>by
  simp only [List.map_cons]
  unfold Reps
  exact⟨_,_,rfl,by unfold Rep;rfl,vV ns⟩
theorem aB3 {i:Nat} {x:Str} {p ap cp:Pos} (hN:X.N[i]? =some x) (hv:Vis X.env.scope x) (hd:(x==("__debug__":Str))=false) (hcd:(x==("__classdict__":Str))=false) (he:ME X ad e f) (hs:starEach [e] X.env=(false,eval e X.env)::starEach [] X.env)
  (hline:(ap.endLine==cp.line)=true):MS X ad Z (.Expr (.Call (.Attribute (.Name x p) "remove" ap) [e] [] cp) pos) (sRem i f):=by
 refine PS.imp (gC (wS (T:="list") PySem.F.plainAttrs_list PySem.F.slot_list_remove PySem.F.type_list_remove qS (bL hN hv hd hcd) (aR he bN hs) rfl (cI hs) hline hs rfl) rfl) ?_
 rintro D' σ H ⟨G₀,G,ρ,E,S,hx,hr⟩
 unfold sRem at hr
 cases q:ρ[i]? with
 | none=>rw [q] at hr;exact hr.elim
 | some sl=>
  rw [q] at hr
  cases sl with
  | no=>exact hr.elim
  | sh d=>exact hr.elim
  | dc d=>exact hr.elim
  | sd d=>exact hr.elim
  | ow xs=>
   obtain⟨a,vs,h1,h2,h3,h4⟩:=S.sl.ow q
   refine⟨.ref a,h1, .inl ⟨rfl,vs,SqL.of h3⟩, ?_⟩
   refine bO S hx hr fun v d G1 H1 st r k=> ?_
   obtain⟨g1,h1'⟩:=aZ st h2 h3
   cases d<;>try exact False.elim k
   rename_i j
   have k':OKo X ad G₀ (match dInts xs with | some ns=>if ns.contains j then .nx (ρ.set i (.ow ((ns.erase j).map D.int))) else .rt .bad | none=> .rt .bad) D' E:=by
    cases z:dInts xs with
    | none=>simp only [z] at k;exact k
    | some ns=>simp only [z] at k;exact k
   cases z:dInts xs with
   | none=>rw [z] at k';exact k'.elim
   | some ns=>
    rw [z] at k'
    have k2:OKo X ad G₀ (if ns.contains j=true then .nx (ρ.set i (.ow ((ns.erase j).map D.int))) else .rt .bad) D' E:=k'
    by_cases hc:ns.contains j=true
    ·rw [if_pos hc] at k2
     have ex:=mJ z
     subst ex
     have ev:=mK h4
     subst ev
     unfold Rep at r;subst r
     exact⟨a,ns,j,rfl,rfl,h1',by simpa using hc,k2 σ G1 _ ((S.step st).upd q h1 g1 (vV _))⟩
    ·rw [if_neg hc] at k2
     exact k2.elim
end
section
variable {prog:Program} {w:World} {A:Around} {E:Value→Shared→Prop} {s:Shared}
theorem qT {d:Addr} {o:Obj} {ar:Array DictEntry} {ep:Nat} {Q:Value→Shared→Prop} (hd:(d==sysModules)=false) (ho:s.heap.get? d=some o) (hc:o.ExactDict) (hdat:o.data= .dict ar ep)
  (hQ:Q (.ref s.heap.objs.size) { s with heap:=s.heap.push { cls:= .type "dict_keyiterator",data:= .fields #[.ref d, .int 0 0, .int ar.size 0, .int ep 0] } }):
  wpAny (model prog w) A (pyIter (.ref d)) Q E s:=by
 have ty:s.TypeIs (.ref d) "dict":=⟨o,ho,hc.1⟩
 refine wpAny_pyIter_slot ty F.slot_dict_iter (wpAny_call_entry F.slot_dict_iter ty F.entry_dict_iter ?_ (F.args_dict_iter_1 _))
 unfold Builtin.«dict.__iter__» Builtin.Dict.dictSlotNone
 refine wpAny_bind (wpAny_bind (wpAny_notOrdered_dict ty ?_))
 refine wpAny_pure ?_
 unfold Builtin.Dict.showsAll
 show wpAny _ _ ((if(d==sysModules)=true then _ else _) >>= _) _ _ s
 rw [hd,if_neg Bool.false_ne_true]
 refine wpAny_bind (wpAny_pure (wpAny_bind (wpAny_dictEntries ho hdat (wpAny_bind (wpAny_dictEpoch ho hdat ?_)))))
 refine wpAny_bind (wpAny_newObj_type (wpAny_pure ⟨_,rfl,"dict_keyiterator",_,⟨_,Heap.get?_push_size _ rfl,rfl⟩,F.slot_dict_keyiterator_next.lookup, ?_⟩))
 simpa [rawInt] using hQ
theorem yL {it d:Addr} {i ep:Nat} {o:Obj} {ar:Array DictEntry} {Q:Option Value→Shared→Prop} (hit:s.heap.IsKeyIter it d i ar.size ep) (ho:s.heap.get? d=some o) (hdat:o.data= .dict ar ep) (hi:i<ar.size)
  (hQ: ∀ h',h'.IsKeyIter it d (i+1) ar.size ep→Heap.SameBut it s.heap h'→Q (some ar[i].key) { s with heap:=h' }):wpAny (model prog w) A (pyNext (.ref it)) Q E s:=by
 obtain⟨oi,hoi,hci,hdi⟩:=id hit
 have ty:=hit.typeIs
 unfold pyNext
 refine wpAny_bind (wpAny_attempt (wpAny_callSpecial?_slot (name:=Str.ofString "__next__") ty F.slot_dict_keyiterator_next (wpAny_call_entry F.slot_dict_keyiterator_next ty F.entry_dict_keyiterator_next ?_ (F.args_dict_keyiterator_next_1 _))))
 refine wpAny_bind (wpAny_pure (wpAny_bind (wpAny_bind ?_)))
 first
  | refine wpAny_bind (wpAny_typeNameOfWhole_keyiter ty (wpAny_pure (wpAny_bind (wpAny_fieldsOf hoi hdi ?_))))
  | refine wpAny_bind (wpAny_typeNameOf_keyiter ty (wpAny_pure (wpAny_bind (wpAny_fieldsOf hoi hdi ?_))))
 have own:Builtin.Dict_items.ownsTuple "dict_keyiterator"=false:=by decide
 simp only [own,Bool.false_eq_true,if_false]
 show wpAny _ _ (if(Value.ref d==Value.none)=true then _ else _) _ _ s
 rw [if_neg (show ¬ (Value.ref d==Value.none)=true from Bool.false_ne_true)]
 refine wpAny_bind (wpAny_pure (wpAny_bind (wpAny_dictEntries ho hdat ?_)))
 rw [if_neg (by simp)]
 refine wpAny_bind (wpAny_pure (wpAny_bind (wpAny_dictEpoch ho hdat ?_)))
 rw [if_neg (by simp)]
 refine wpAny_pure ?_
 simp only [show ¬ ((i:Int)<0) from by omega,if_false,Int.toNat_natCast,Array.getElem?_eq_getElem hi]
 refine wpAny_bind ?_
 first
  | refine wpAny_bind (wpAny_typeNameOfWhole_keyiter ty (wpAny_pure (wpAny_bind (wpAny_isOneOf_keyiter ty ?_))))
  | refine wpAny_bind (wpAny_typeNameOf_keyiter ty (wpAny_pure (wpAny_bind (wpAny_isOneOf_keyiter ty ?_))))
  | refine wpAny_bind (wpAny_typeNameOfWhole_keyiter ty (wpAny_pure ?_))
 show wpAny _ _ (setField (.ref it) 1 (rawInt ((i:Int)+1)) >>= _) _ _ s
 refine wpAny_bind (wpAny_setField hoi hdi (by simp) ?_)
 have nx:(s.heap.update it (Obj.mapFields (·.setIfInBounds 1 (rawInt ((i:Int)+1))))).IsKeyIter it d (i+1) ar.size ep:=
  ⟨_,Heap.get?_update_self _ hoi (Obj.isFreed_of_fields (Obj.data_mapFields hdi _)),(Obj.cls_mapFields ..).trans hci,by rw [Obj.data_mapFields hdi];simp [rawInt]⟩
 refine wpAny_bind (wpAny_holding (wpAny_bind (wpAny_isOneOf_keyiter (s:={ s with heap:=s.heap.update it (Obj.mapFields (·.setIfInBounds 1 (rawInt ((i:Int)+1)))) }) nx.typeIs ?_)))
 exact wpAny_pure (wpAny_pure ⟨_,rfl,wpAny_pure (hQ _ nx (Heap.SameBut.update ..))⟩)
theorem yM {it d:Addr} {i ep:Nat} {o:Obj} {ar:Array DictEntry} {Q:Option Value→Shared→Prop} (hh:A.handled=none) (hit:s.heap.IsKeyIter it d i ar.size ep) (ho:s.heap.get? d=some o) (hdat:o.data= .dict ar ep) (hi:ar.size≤i)
  (hQ: ∀ h',Heap.ExtBut it s.heap h'→Q none { s with heap:=h' }):wpAny (model prog w) A (pyNext (.ref it)) Q E s:=by
 obtain⟨oi,hoi,hci,hdi⟩:=id hit
 have ty:=hit.typeIs
 unfold pyNext
 refine wpAny_bind (wpAny_attempt (wpAny_callSpecial?_slot (name:=Str.ofString "__next__") ty F.slot_dict_keyiterator_next (wpAny_call_entry F.slot_dict_keyiterator_next ty F.entry_dict_keyiterator_next ?_ (F.args_dict_keyiterator_next_1 _))))
 refine wpAny_bind (wpAny_pure (wpAny_bind (wpAny_bind ?_)))
 first
  | refine wpAny_bind (wpAny_typeNameOfWhole_keyiter ty (wpAny_pure (wpAny_bind (wpAny_fieldsOf hoi hdi ?_))))
  | refine wpAny_bind (wpAny_typeNameOf_keyiter ty (wpAny_pure (wpAny_bind (wpAny_fieldsOf hoi hdi ?_))))
 have own:Builtin.Dict_items.ownsTuple "dict_keyiterator"=false:=by decide
 simp only [own,Bool.false_eq_true,if_false]
 show wpAny _ _ (if(Value.ref d==Value.none)=true then _ else _) _ _ s
 rw [if_neg (show ¬ (Value.ref d==Value.none)=true from Bool.false_ne_true)]
 refine wpAny_bind (wpAny_pure (wpAny_bind (wpAny_dictEntries ho hdat ?_)))
 rw [if_neg (by simp)]
 refine wpAny_bind (wpAny_pure (wpAny_bind (wpAny_dictEpoch ho hdat ?_)))
 rw [if_neg (by simp)]
 refine wpAny_pure ?_
 simp only [show ¬ ((i:Int)<0) from by omega,if_false,Int.toNat_natCast,Array.getElem?_eq_none hi]
 refine wpAny_bind ?_
 first
  | refine wpAny_bind (wpAny_typeNameOfWhole_keyiter ty (wpAny_pure ?_))
  | refine wpAny_bind (wpAny_typeNameOf_keyiter ty (wpAny_pure ?_))
 show wpAny _ _ (setField (.ref it) 0 .none >>= _) _ _ s
 refine wpAny_bind (wpAny_setField hoi hdi (by simp) (wpAny_bind ?_))
 simp only [newExc,newTuple]
 refine wpAny_bind (wpAny_newObj_type (wpAny_bind (m:=firstArgMember _ _) (wpAny_of_eq (a:=Value.none) (by first | rfl | (simp only [firstArgMember];rfl)) (wpAny_newObj_type ?_ (by size_fits)))) (by size_fits))
 simp only [raiseNew]
 refine wpAny_bind (wpAny_handled ?_)
 rw [show A.in1.handled=none from hh]
 refine wpAny_bind (wpAny_pure (wpAny_throw ?_))
 refine wpAny_bind (wpAny_isInstance (b:=true) (T:="StopIteration") ⟨_,Heap.get?_push_size _ rfl,rfl⟩ isSubtype_stop ?_)
 exact wpAny_pure (hQ _ (((Heap.SameBut.update ..).extBut.push _).push _))
end
noncomputable def Itd (a:Addr) (ep n:Nat):It:=
 ⟨fun i H=>i<n∧ ∃ es,H a=some (dcO a (ep,es))∧es.length=n,fun i H x H'=>H'=H∧ ∀ es,H a=some (dcO a es)→ ∃ e,es.2[i]? =some e∧x= .ref e.2.1,fun i H=>n≤i∧ ∃ es,H a=some (dcO a (ep,es))∧es.length=n⟩
theorem jM {α β:Type} {R:α→β→Prop}: ∀ {l:List α} {m:List β},Paired R l m→ ∀ {i:Nat} {b:β},m[i]? =some b→ ∃ a,l[i]? =some a∧R a b
 | _,_, .nil,i,b,h=>by simp at h
 | _,_, .cons r t,0,b,h=>by simp at h;subst h;exact⟨_,rfl,r⟩
 | _,_, .cons r t,i+1,b,h=>by
  obtain⟨a,e,r⟩:=jM t (i:=i) (b:=b) (by simpa using h)
  exact⟨a,by simpa using e,r⟩
theorem dX {α β:Type} {R:α→β→Prop}: ∀ {l:List α} {m:List β},Paired R l m→ ∀ {i:Nat} {a:α},l[i]? =some a→ ∃ b,m[i]? =some b∧R a b
 | _,_, .nil,i,b,h=>by simp at h
 | _,_, .cons r t,0,b,h=>by simp at h;subst h;exact⟨_,rfl,r⟩
 | _,_, .cons r t,i+1,b,h=>by
  obtain⟨a,e,r⟩:=dX t (i:=i) (a:=b) (by simpa using h)
  exact⟨a,by simpa using e,r⟩
theorem jN {P:Program} {w:World} {K:PySem.W.Frag} {tg:Expr} (a it:Addr) (ep n:Nat):Turn P w K tg (Itd a ep n) [it] it (fun i h=>h.IsKeyIter it a i n ep) where
 mem:=by simp
 obj:=fun i h st b hb=>by
  have e:b=it:=by simpa using hb
  subst e
  obtain⟨o,e,c,d⟩:=st
  exact⟨o,e,fun v z=>by rw [d] at z;cases z⟩
 keep:=fun i h h' st k=>st.at fun o e=>k it (by simp) o e
 item:=by
  intro X hP hw hK hc i pins s σ H E I hf st hg
  subst hP hw hK
  obtain⟨hi,es,ha,hl⟩:=hg
  obtain⟨⟨z,l,o,ar,xs,ho,he,hdat,har,hx⟩,_,_⟩:=I.hok a _ ha
  have sz:ar.size=n:=by rw [←Array.length_toList,har,List.length_map, ←Paired.length hx];exact hl
  obtain⟨f0,f1,f2,f3,f4,f5⟩:=hf it (by simp)
  have hi':i<ar.size:=by rw [sz];exact hi
  refine yL (ar:=ar) (by rw [sz];exact st) ho hdat hi' fun h' st' sb=> ?_
  have I1:Inv X pins σ H { s with heap:=h' }:=I.turned (t':=s.toks) (fun b o hb e=>(sb.2 b hb).trans e) f0 f1 f3 f4 f5
  have exi:xs[i]? =some (xs[i]'(by have:=congrArg List.length har;rw [Array.length_toList,List.length_map] at this;omega)):=List.getElem?_eq_getElem _
  have key: ∀ (es:Nat×List (Int×Addr×V)),DcAt s.heap a es→ ∃ e,es.2[i]? =some e∧ar[i].key= .ref e.2.1:=fun es d=>by
   obtain⟨_,_,o',ar',xs',ho',_,hdat',har',hx'⟩:=d
   have eo:o'=o:=by rw [ho] at ho';cases ho';rfl
   subst eo
   rw [hdat] at hdat'
   cases hdat'
   have hlx:i<xs'.length:=by have:=congrArg List.length har';rw [Array.length_toList,List.length_map] at this;omega
   obtain⟨e,e1,r⟩:=jM hx' (i:=i) (b:=xs'[i]) (List.getElem?_eq_getElem _)
   refine⟨e,e1, ?_⟩
   have:ar.toList[i]? =some ⟨xs'[i].1, .ref xs'[i].2.1,xs'[i].2.2⟩:=by rw [har',List.getElem?_map,List.getElem?_eq_getElem hlx];rfl
   rw [Array.getElem?_toList,Array.getElem?_eq_getElem hi'] at this
   rw [Option.some.inj this,r.2.1]
  obtain⟨e0,_,k0⟩:=key (ep,es) ⟨z,l,o,ar,xs,ho,he,hdat,har,hx⟩
  obtain⟨oi,e,c,d⟩:=id st'
  rw [k0]
  refine⟨_,rfl,sI (s:={ s with heap:=h' }) e c d (by decide) ⟨.ref e0.2.1,H,I1,rfl,⟨rfl,fun es' h'=> ?_⟩,by rw [←sz];exact st',fun b hb=>(hf b hb).1⟩⟩
  obtain⟨e1,q1,q2⟩:=key es' (I.hok a _ h').1
  refine⟨e1,q1, ?_⟩
  rw [Value.ref.inj (k0.symm.trans q2)]
 done:=by
  intro X hP hw hK hc i pins s σ H E I hf st hg
  subst hP hw hK
  obtain⟨hi,es,ha,hl⟩:=hg
  obtain⟨⟨z,l,o,ar,xs,ho,he,hdat,har,hx⟩,_,_⟩:=I.hok a _ ha
  have sz:ar.size=n:=by rw [←Array.length_toList,har,List.length_map, ←Paired.length hx];exact hl
  obtain⟨f0,f1,f2,f3,f4,f5⟩:=hf it (by simp)
  exact yM (ar:=ar) (I.ok.hd hc) (by rw [sz];exact st) ho hdat (by rw [sz];exact hi) fun h' eb=>⟨rfl,I.turned (t':=s.toks) (fun b o hb e=>eb b o hb e) f0 f1 f3 f4 f5⟩
 self:=fun _ _ _ _ _ st h=>wpAny_pyIter_keyiter st h
section
variable {X:Cx} {ad:Ad} {pins:List (Addr×Obj)} {s:Shared} {σ:St} {H G:Hp} {ρ:Rho} {tg:Expr}
theorem uD {a:Addr} {es:Nat×List (Int×Addr×V)} {kvs:List (D×D)} (ha:H a=some (dcO a es)) (hd:DR X.K ad G kvs es) (few:es.2.length≤200000):ItH X ad (Itd a es.1 es.2.length) G H (kvs.map (·.1)):=by
 have hl:kvs.length=es.2.length:=Paired.length hd
 refine⟨fun i G1 H1 d st e=> ?_,fun G1 H1 st=>⟨by rw [List.length_map,hl];exact Nat.le_refl _,es.2,st.sh _ _ ha,rfl⟩,by rw [List.length_map,hl];exact Nat.le_trans few (by decide)⟩
 rw [List.getElem?_map] at e
 obtain⟨p,e1,rfl⟩:=zMd e
 obtain⟨q,e2,r⟩:=dX hd e1
 have hi:i<es.2.length:=(List.getElem?_eq_some_iff.mp e2).1
 refine⟨⟨hi,es.2,st.sh _ _ ha,rfl⟩, ?_⟩
 rintro x H2 ⟨rfl,y⟩
 obtain⟨q',e3,rfl⟩:=y es (st.sh _ _ ha)
 rw [e2] at e3
 cases e3
 exact⟨G1,Step.refl st.gh,r.2.1.mono st.sg⟩
theorem qU {i:Nat} {x:Str} {p:Pos} {a:Addr} {es:Nat×List (Int×Addr×V)} {kvs:List (D×D)} {W:It→Hp→Prop} (hN:X.N[i]? =some x) (hv:Vis X.env.scope x) (hd:(x==("__debug__":Str))=false) (hcd:(x==("__classdict__":Str))=false)
  (I:Inv X pins σ H s) (hG:Same G H) (h1:σ[i]? =some (some (.ref a))) (h3:H a=some (dcO a es)) (h4:DR X.K ad G kvs es) (h5:KOk kvs) (hw: ∀ J G' H',Step G H G' H'→ItH X ad J G' H' (kvs.map (·.1))→W J H'):
  wpAny (model X.prog X.w) X.A (eval (.Name x p) X.env) (fun v s1=>wpAny (model X.prog X.w) X.A (pyIter v) (PIE X pins σ tg W) X.xe s1) X.xe s:=by
 refine L2.thn (bL hN hv hd hcd pins s σ H (fun v' H'=>v'= .ref a∧H'=H) I ⟨.ref a,h1,rfl,rfl⟩) fun z s1 hz_=> ?_
 obtain⟨v',H',I1,r1,e1,e2⟩:=hz_
 subst e1;subst e2
 cases r1
 obtain⟨hz,hln,_⟩:=qP I1 hG h3 h4 h5
 obtain⟨⟨z,l,o,ar,xs,ho,he,hdat,har,hx⟩,_,_⟩:=I1.hok a _ h3
 have sz:ar.size=es.2.length:=by rw [←Array.length_toList,har,List.length_map, ←Paired.length hx]
 refine qT hz ho he hdat ?_
 refine⟨s1.heap.objs.size,[s1.heap.objs.size],_,_,H',rfl,I1.kept (t':=s1.toks) fun b o e=>Heap.get?_push_of_some _ e,jN a _ es.1 es.2.length,⟨_,Heap.get?_push_size _ rfl,rfl,by rw [sz];rfl⟩,fun b hb=> ?_,hw _ G H' (Step.refl hG) (uD h3 h4 hln)⟩
 have e:b=s1.heap.objs.size:=by simpa using hb
 subst e
 exact I1.fpOk (Nat.le_refl _) (I1.hok.fresh (Nat.le_refl _))
theorem yN {i:Nat} {x:Str} {p:Pos} (hN:X.N[i]? =some x) (hv:Vis X.env.scope x) (hd:(x==("__debug__":Str))=false) (hcd:(x==("__classdict__":Str))=false):MI X ad tg (.Name x p) (iLook i):=by
 intro pins s σ H W I ⟨G,ρ,E,hG,hS,hx,hr⟩
 have other:iLook i ρ=rLook i ρ→wpAny (model X.prog X.w) X.A (eval (.Name x p) X.env) (fun v s1=>wpAny (model X.prog X.w) X.A (pyIter v) (PIE X pins σ tg W) X.xe s1) X.xe s:=fun z=>
  lS (oP hN hv hd hcd) pins s σ H W I ⟨G,ρ,E,hG,hS,hx,by rw [←z];exact hr⟩
 cases e:ρ[i]? with
 | none=>exact other (by unfold iLook;rw [e])
 | some sl=>
  cases sl with
  | no=>exact other (by unfold iLook;rw [e])
  | sh d=>exact other (by unfold iLook;rw [e])
  | ow d=>exact other (by unfold iLook;rw [e])
  | dc kvs=>
   unfold iLook at hr
   rw [e] at hr
   obtain⟨ds,e1,hw⟩:=hr
   cases e1
   obtain⟨a,es,h1,h2,h3,h4,h5⟩:=hS.dc e
   exact qU hN hv hd hcd I hG h1 h3 h4 h5 hw
  | sd kvs=>
   unfold iLook at hr
   rw [e] at hr
   obtain⟨ds,e1,hw⟩:=hr
   cases e1
   obtain⟨a,es,h1,h2,h3,h4,h5⟩:=hS.sd e
   exact qU hN hv hd hcd I hG h1 h3 h4 h5 hw
theorem aB4 {kvs:List (D×D)} {es:List (Int×Addr×V)} {xs:List (Int×Addr×Value)} {k:D} (hk:keyOk k=true) (hd:DL X.K ad G kvs es) (hx:Paired RX es xs) (ha: ∀ p∈kvs,keyOk p.1=true) {p:D×D} (hf:(kvs.find? fun p=>deq p.1 k)=some p):
  ∃ b u v,atKey (List.zipWith y3 kvs xs) (toPy k)=some (b,u)∧RelV v u∧Rep X.K ad G p.2 v:=by
 unfold atKey
 induction hd generalizing xs with
 | nil=>cases hf
 | @cons q e kvs' es' r _ ih=>
  cases hx with
  | @cons _ y _ xs r2 hx=>
   show ∃ b u v,((y3 q y::List.zipWith y3 kvs' xs).find? _).map _=some (b,u)∧_
   rw [List.find?_cons] at hf ⊢
   have ke:=mG (ha q (.head _)) hk
   rw [ke] at hf
   cases z:decide (toPy q.1=toPy k) with
   | true=>
    rw [z] at hf
    cases hf
    refine⟨y.2.1,y.2.2,e.2.2, ?_,r2.2.2,r.2.2⟩
    show Option.map _ (match decide (toPy p.1=toPy k) with | true=>some (y3 p y) | false=>_)=_
    rw [z]
    rfl
   | false=>
    rw [z] at hf
    obtain⟨b,u,v,e1,e2,e3⟩:=ih hx (fun p hp=>ha p (.tail _ hp)) hf
    refine⟨b,u,v, ?_,e2,e3⟩
    show Option.map _ (match decide (toPy q.1=toPy k) with | true=>some (y3 q y) | false=>_)=_
    rw [z]
    exact e1
theorem aB5 {i:Nat} {x:Str} {p:Pos} {k:Expr} {g:F} {pos:Pos} (hN:X.N[i]? =some x) (hv:Vis X.env.scope x) (hd:(x==("__debug__":Str))=false) (hcd:(x==("__classdict__":Str))=false) (hu:X.A.units+62<cLine) (hb:ME X ad k g) (hs:PlainIx k):ME X ad (.Subscript (.Name x p) k pos) (rGet i g):=by
 intro pins s σ H Q I ⟨G,ρ,E,hG,hS,hx,hr⟩
 have go: ∀ (a:Addr) (es:Nat×List (Int×Addr×V)) (kvs:List (D×D)),σ[i]? =some (some (.ref a))→H a=some (dcO a es)→DR X.K ad G kvs es→KOk kvs→RK X.K ad G H ((g ρ).bind (getK kvs)) Q E→
   wpAny (model X.prog X.w) X.A (eval (.Subscript (.Name x p) k pos) X.env) (EP X pins σ Q) X.xe s:=by
  intro a es kvs h1 h3 h4 h5 kk
  refine Subscript_ (L2.thn (bL hN hv hd hcd pins s σ H (fun v' H'=>v'= .ref a∧H'=H) I ⟨.ref a,h1,rfl,rfl⟩) fun v s1 hz_=> ?_)
  obtain⟨v',H',I1,r1,e1,e2⟩:=hz_
  subst e1;subst e2
  cases r1
  refine L2.thn (hb.thn I1 hG hS hx kk) fun u s2 hz_=> ?_
  obtain⟨y,d2,G2,H2,I2,r2,st2,q2,k2⟩:=hz_
  unfold getK at k2
  by_cases hk:keyOk d2=true
  ·rw [if_pos hk] at k2
   cases e:kvs.find? fun p=>deq p.1 d2 with
   | none=>rw [e] at k2;exact k2.elim
   | some q=>
    rw [e] at k2
    have k3:RK X.K ad G2 H2 (.ok q.2) Q E:=k2
    obtain⟨b,rfl⟩:=g0 hk q2
    cases r2
    obtain⟨hz,hln,xs,hx',hm⟩:=qP I2 st2.gh (st2.sh _ _ h3) (h4.mono st2.sg) h5
    obtain⟨b',u',w,e1,e2,e3⟩:=aB4 hk (h4.mono st2.sg) hx' h5.1 e
    exact subscriptTail_builtinR (x:=u') hm.typeIs slot_dict_getitem.lookup (wpAny_getItem_heap (Q:=fun r s'=>r=u'∧EP X pins σ Q r s') (knd:=nKind X.prog X.w) (show X.A.in1.units+20<cLine by have:=X.A.in1_units;omega) (mH I2 st2.gh hk q2) hm e1 ⟨rfl,w,H2,I2.tok _,e2,k3.ok_now st2.gh e3⟩) (hs _ _)
  ·rw [if_neg hk] at k2
   exact k2.elim
 unfold rGet at hr
 cases e:ρ[i]? with
 | none=>rw [e] at hr;exact hr.elim
 | some sl=>
  rw [e] at hr
  cases sl with
  | no=>exact hr.elim
  | sh d=>exact hr.elim
  | ow d=>exact hr.elim
  | dc kvs=>
   obtain⟨a,es,h1,h2,h3,h4,h5⟩:=hS.dc e
   exact go a es kvs h1 h3 h4 h5 hr
  | sd kvs=>
   obtain⟨a,es,h1,h2,h3,h4,h5⟩:=hS.sd e
   exact go a es kvs h1 h3 h4 h5 hr
theorem uE {a:Addr} {es:Nat×List (Int×Addr×V)} {kvs:List (D×D)} (ha:G a=some (dcO a es)) (hd:DR X.K ad G kvs es):ItG X ad (Itd a es.1 es.2.length) G (kvs.map (·.1)):=by
 have hl:kvs.length=es.2.length:=Paired.length hd
 refine⟨fun i G1 H1 d s1 s2 e=> ?_,fun G1 H1 s1 s2=>⟨by rw [List.length_map,hl];exact Nat.le_refl _,es.2,s2 _ _ (s1 _ _ ha),rfl⟩⟩
 rw [List.getElem?_map] at e
 obtain⟨p,e1,rfl⟩:=zMd e
 obtain⟨q,e2,r⟩:=dX hd e1
 have hi:i<es.2.length:=(List.getElem?_eq_some_iff.mp e2).1
 refine⟨⟨hi,es.2,s2 _ _ (s1 _ _ ha),rfl⟩, ?_⟩
 rintro x H2 ⟨rfl,y⟩
 obtain⟨q',e3,rfl⟩:=y es (s2 _ _ (s1 _ _ ha))
 rw [e2] at e3
 cases e3
 exact⟨G1,Step.refl s2,r.2.1.mono s1⟩
theorem aB6 {i:Nat} {x:Str} {p:Pos} (hN:X.N[i]? =some x) (hv:Vis X.env.scope x) (hd:(x==("__debug__":Str))=false) (hcd:(x==("__classdict__":Str))=false) (hm:MIG X ad tg (.Name x p) (rVar i)):MIG X ad tg (.Name x p) (iSd i):=by
 intro pins s σ H W I ⟨G,ρ,E,hG,hS,hx,hr⟩
 have other:iSd i ρ=rVar i ρ→wpAny (model X.prog X.w) X.A (eval (.Name x p) X.env) (fun v s1=>wpAny (model X.prog X.w) X.A (pyIter v) (PIE X pins σ tg W) X.xe s1) X.xe s:=fun z=>
  hm pins s σ H W I ⟨G,ρ,E,hG,hS,hx,by rw [←z];exact hr⟩
 cases e:ρ[i]? with
 | none=>exact other (by unfold iSd;rw [e])
 | some sl=>
  cases sl with
  | no=>exact other (by unfold iSd;rw [e])
  | sh d=>exact other (by unfold iSd;rw [e])
  | ow d=>exact other (by unfold iSd;rw [e])
  | dc d=>exact other (by unfold iSd;rw [e])
  | sd kvs=>
   unfold iSd at hr
   rw [e] at hr
   obtain⟨ds,e1,hw⟩:=hr
   cases e1
   obtain⟨a,es,h1,h2,h3,h4,h5⟩:=hS.sd e
   refine L2.thn (bL hN hv hd hcd pins s σ H (fun v' H'=>v'= .ref a∧H'=H) I ⟨.ref a,h1,rfl,rfl⟩) fun z s1 hz_=> ?_
   obtain⟨v',H',I1,r1,e1,e2⟩:=hz_
   subst e1;subst e2
   cases r1
   obtain⟨hz,hln,_⟩:=qP I1 hG h3 h4 h5
   obtain⟨⟨z,l,o,ar,xs,ho,he,hdat,har,hx⟩,_,_⟩:=I1.hok a _ h3
   have sz:ar.size=es.2.length:=by rw [←Array.length_toList,har,List.length_map, ←Paired.length hx]
   refine qT hz ho he hdat ?_
   refine⟨s1.heap.objs.size,[s1.heap.objs.size],_,_,H',rfl,I1.kept (t':=s1.toks) fun b o e=>Heap.get?_push_of_some _ e,jN a _ es.1 es.2.length,⟨_,Heap.get?_push_size _ rfl,rfl,by rw [sz];rfl⟩,fun b hb=> ?_,hw _ G H' (Step.refl hG) (uE h2 h4)⟩
   have e:b=s1.heap.objs.size:=by simpa using hb
   subst e
   exact I1.fpOk (Nat.le_refl _) (I1.hok.fresh (Nat.le_refl _))
end
theorem bB {l:List Expr} {a:Expr} (h:one l=some a):l=[a]:=by
 unfold one at h
 split at h
 ·cases h;rfl
 ·cases h
theorem mL {l:List Expr} {a b:Expr} (h:two l=some (a,b)):l=[a,b]:=by
 unfold two at h
 split at h
 ·cases h;rfl
 ·cases h
theorem aU {e:Expr} {x:Str} {p:Pos} (h:vName e=some (x,p)):e= .Name x p:=by
 cases e<;>first | (cases h;rfl) | (cases h;done)
theorem qV {e:Expr} {lo hi:Option Expr} (h:vSlice e=some (lo,hi)): ∃ p,e= .Slice lo hi none p:=by
 cases e<;>try (cases h;done)
 rename_i a b c p
 cases c with
 | none=>cases h;exact⟨p,rfl⟩
 | some c=>cases h
theorem mM {dE:Expr→Option F} {C:SK.Ctx} {a:Expr} {f:F} (h:rngOf dE C a=some f): ∃ x p b q,a= .Call (.Name x p) [b] [] q∧glo C x=some (.py .range)∧dE b=some f:=by
 unfold rngOf at h
 split at h
 ·rename_i f' as kws q
  split at h
  ·rename_i hk
   obtain⟨⟨x,p⟩,h1,h⟩:=zBd h
   obtain⟨b,h2,h⟩:=zBd h
   split at h
   ·rename_i e1 e2
    exact⟨x,p,b,q,by rw [aU h1,bB h2,List.isEmpty_iff.mp hk],e2,h⟩
   ·cases h
  ·cases h
 ·cases h
theorem uF {ks:List Keyword} {i:Int} (h:vDflt ks=some i): ∃ cj cp kp,ks=[⟨some "default", .Constant (.int i) cj cp,kp⟩]:=by
 unfold vDflt at h
 split at h
 ·rename_i x v kp
  split at h
  ·rename_i hx
   subst hx
   split at h
   ·rename_i c cj cp
    split at h
    ·cases h;exact⟨cj,cp,kp,rfl⟩
    ·cases h
   ·cases h
  ·cases h
 ·cases h
theorem uG {dL:Expr→Option F} {C:SK.Ctx} {f:Expr} {as:List Expr} {ks:List Keyword} {r:F} (h:denKw dL C f as ks=some r): ∃ x p a i g cj cp kp,f= .Name x p∧as=[a]∧ks=[⟨some "default", .Constant (.int i) cj cp,kp⟩]∧glo C x=some (.py .max)∧dL a=some g∧r=rCall (dMaxD i) [g]:=by
 unfold denKw at h
 obtain⟨⟨x,p⟩,h1,h⟩:=zBd h
 obtain⟨a,h2,h⟩:=zBd h
 obtain⟨i,h3,h⟩:=zBd h
 obtain⟨cj,cp,kp,rfl⟩:=uF h3
 split at h
 ·rename_i e1 e2
  obtain⟨g,h4,rfl⟩:=zMd h
  exact⟨x,p,a,i,g,cj,cp,kp,aU h1,bB h2,rfl,e2,h4,rfl⟩
 ·cases h
theorem cN {α:Type} {l:List α} (h:l.isEmpty=true):l=[]:=List.isEmpty_iff.mp h
noncomputable def notSt:Expr→Prop
 | .Starred _ _=>False
 | _=>True
theorem aE {e:Expr} {es:List Expr} {env:PySem.Env} (h:notSt e):starEach (e::es) env=(false,eval e env)::starEach es env:=by
 cases e<;>first | rfl | exact h.elim
noncomputable def notSet:Expr→Prop
 | .Set _ _ _=>False
 | _=>True
theorem qW {C:SK.Ctx} {e:Expr} {i:Nat} (h:dnN C e=some i): ∃ x p,e= .Name x p∧loc C x=some i:=by
 unfold dnN at h
 obtain⟨⟨x,p⟩,h1,h2⟩:=zBd h
 cases aU h1
 have h3:(if C.bs.contains (dcName x)=true then loc C x else none)=some i:=h2
 by_cases hc:C.bs.contains (dcName x)=true
 ·rw [if_pos hc] at h3
  exact⟨x,p,rfl,h3⟩
 ·rw [if_neg hc] at h3
  cases h3
theorem aB7 {C:SK.Ctx} {op:CmpOp} {e:Expr} {i:Nat} (h:inN C op e=some i): ∃ x p,e= .Name x p∧loc C x=some i:=by
 unfold inN at h
 split at h
 ·obtain⟨⟨x,p⟩,h1,h2⟩:=zBd h
  cases aU h1
  exact⟨x,p,rfl,h2⟩
 ·cases h
theorem dG {e:Expr} {op:CmpOp} (h:notSet e):behindInMarks op e=false:=by
 cases e<;>first | rfl | exact h.elim
theorem jO {b c:Expr} {op op':CmpOp} (h:notSet c):lastMarks [op,op'] [b,c]=false:=by
 show behindInMarks op' c=false
 exact dG h
theorem mO {e:Expr} (h: ∀ a b c d,e≠ .Slice a b c d):PlainIx e:=by
 intro o i
 cases e<;>first | rfl | exact absurd rfl (h _ _ _ _)
theorem aC {n:Nat} {C:SK.Ctx} {e:Expr} {f:F} (h:denE n C e=some f):notSt e∧notSet e∧ ∀ a b c d,e≠ .Slice a b c d:=by
 cases n with
 | zero=>cases h
 | succ n=>cases e<;>first | (cases h;done) | (refine⟨trivial,trivial, ?_⟩;intro a b c d z;cases z;done)
theorem aL {n:Nat} {C:SK.Ctx} {e:Expr} {f:F} (h:denL n C e=some f):notSt e∧notSet e:=by
 cases n with
 | zero=>cases h
 | succ n=>
  by_cases hn: ∃ x p,e= .Name x p
  ·obtain⟨x,p,rfl⟩:=hn
   exact⟨trivial,trivial⟩
  ·have:denE n C e=some f:=by
    rw [←h]
    cases e<;>first | rfl | exact absurd ⟨_,_,rfl⟩ hn
   exact⟨(aC this).1,(aC this).2.1⟩
theorem jP {n:Nat} {C:SK.Ctx} {tt:Bool} {e:Expr} {f:F} (h:denI n C tt e=some f):notSet e:=by
 cases n with
 | zero=>cases h
 | succ n=>cases e<;>first | trivial | exact(aL h).2
section
variable {ad:Ad}
def SndE (ad:Ad) (n:Nat):Prop:= ∀ (X:Cx) (C:SK.Ctx) (e:Expr) (f:F),CtxOk X ad C→denE n C e=some f→ME X ad e f∧MT X ad e f∧ ∀ op es p,e= .BoolOp op es p→MW X ad e f
def SndL (ad:Ad) (n:Nat):Prop:= ∀ (X:Cx) (C:SK.Ctx) (e:Expr) (f:F),CtxOk X ad C→denL n C e=some f→ML X ad e f
def SndI (ad:Ad) (n:Nat):Prop:= ∀ (X:Cx) (C:SK.Ctx) (tg e:Expr) (tt:Bool) (f:F),CtxOk X ad C→(tt=true→ ∃ es k p,tg= .Tuple es k p)→denI n C tt e=some f→MI X ad tg e f∧((∀ x p,e≠ .Name x p)→MIG X ad tg e f)
variable {X:Cx} {C:SK.Ctx} {n:Nat}
theorem nV (hE:SndE ad n) (O:CtxOk X ad C): ∀ {es:List Expr} {fs:List F},mapO (denE n C) es=some fs→MA X ad es fs∧ ∀ e∈es,notSt e
 | [],fs,h=>by
  cases h
  exact⟨vJ,fun _ h=>by cases h⟩
 | e::es,fs,h=>by
  unfold mapO at h
  cases e1:denE n C e with
  | none=>rw [e1] at h;cases h
  | some f=>
   rw [e1] at h
   obtain⟨r,h1,h2⟩:=zMd h
   subst h2
   obtain⟨q1,q2⟩:=nV hE O h1
   have ns:=(aC e1).1
   exact⟨kF (hE X C e f O e1).1 q1 (aE ns),fun a ha=>by
    rcases List.mem_cons.mp ha with rfl | ha
    ·exact ns
    ·exact q2 a ha⟩
theorem hU {α β:Type} {f:α→Option β}: ∀ {l:List α} {r:List β},mapO f l=some r→r.length=l.length
 | [],r,h=>by cases h;rfl
 | x::l,r,h=>by
  unfold mapO at h
  cases e:f x with
  | none=>rw [e] at h;cases h
  | some y=>
   rw [e] at h
   obtain⟨r',h1,h2⟩:=zMd h
   subst h2
   simp [hU h1]
theorem eG {env:PySem.Env} {pos:Pos}: ∀ {es:List Expr},(∀ e∈es,notSt e)→(backTo pos (starEach es env)).any (·.1)=false
 | [],_=>rfl
 | e::es,h=>by
  rw [aE (h e (.head _))]
  show(false||(backTo pos (starEach es env)).any (·.1))=false
  rw [eG fun a ha=>h a (.tail _ ha)]
  rfl
theorem aDi (hE:SndE ad n) (hL:SndL ad n) (O:CtxOk X ad C) {x:Str} {p:Py} {as:List Expr} {f:F} {np pos:Pos} (hg:glo C x=some (.py p)) (h:denPy (denE n C) (denL n C) C p as=some f):ME X ad (.Call (.Name x np) as [] pos) f:=by
 obtain⟨g1,g2,g3,g4⟩:=O.gl hg
 unfold denPy at h
 split at h
 ·have hx:=zBd h
  clear h
  obtain⟨a,h0,h⟩:=hx
  cases bB h0
  obtain⟨fa,h1,rfl⟩:=zMd h
  subst g3
  exact b9 w6 g1 g4 (by decide+kernel) (hL X C _ fa O h1) (by decide) g2 (aE (aL h1).1)
 ·have hx:=zBd h
  clear h
  obtain⟨a,h0,h⟩:=hx
  cases bB h0
  obtain⟨fa,h1,rfl⟩:=zMd h
  subst g3
  exact oQ w8 g1 g4 (by decide+kernel) (hL X C _ fa O h1) (by decide) g2 (aE (aL h1).1)
 ·have hx:=zBd h
  clear h
  obtain⟨a,h0,h⟩:=hx
  cases bB h0
  subst g3
  cases h1:denL n C a with
  | some fa=>
   rw [h1] at h
   cases h
   exact oQ oR g1 g4 (by decide+kernel) (hL X C _ fa O h1) (by decide) g2 (aE (aL h1).1)
  | none=>
   rw [h1] at h
   obtain⟨fa,h2,rfl⟩:=zMd h
   obtain⟨y,yp,b,yq,rfl,e1,e2⟩:=mM h2
   obtain⟨r1,r2,r3,r4⟩:=O.gl e1
   subst r3
   exact fG r1 r4 g1 g4 O.calm (hE X C _ fa O e2).1 (aE (aC e2).1)
 ·have hx:=zBd h
  clear h
  obtain⟨a,h0,h⟩:=hx
  cases bB h0
  subst g3
  cases h1:denL n C a with
  | some fa=>
   rw [h1] at h
   cases h
   exact oQ sS g1 g4 (by decide+kernel) (hL X C _ fa O h1) (by decide) g2 (aE (aL h1).1)
  | none=>
   rw [h1] at h
   obtain⟨fa,h2,rfl⟩:=zMd h
   obtain⟨y,yp,b,yq,rfl,e1,e2⟩:=mM h2
   obtain⟨r1,r2,r3,r4⟩:=O.gl e1
   subst r3
   exact gR r1 r4 g1 g4 O.calm (hE X C _ fa O e2).1 (aE (aC e2).1)
 ·have hx:=zBd h
  clear h
  obtain⟨a,h0,h⟩:=hx
  cases bB h0
  obtain⟨fa,h1,rfl⟩:=zMd h
  subst g3
  exact b9 (xA O.hd) g1 g4 (by decide+kernel) (hL X C _ fa O h1) (by decide) g2 (aE (aL h1).1)
 ·have hx:=zBd h
  clear h
  obtain⟨a,h0,h⟩:=hx
  cases bB h0
  obtain⟨fa,h1,rfl⟩:=zMd h
  subst g3
  exact b9 (xB O.hd) g1 g4 (by decide+kernel) (hL X C _ fa O h1) (by decide) g2 (aE (aL h1).1)
 ·have hx:=zBd h
  clear h
  obtain⟨a,h0,h⟩:=hx
  cases bB h0
  obtain⟨fa,h1,rfl⟩:=zMd h
  subst g3
  exact b9 (xC O.hd) g1 g4 (by decide+kernel) (hL X C _ fa O h1) (by decide) g2 (aE (aL h1).1)
 ·have hx:=zBd h
  clear h
  obtain⟨a,h0,h⟩:=hx
  cases bB h0
  obtain⟨fa,h1,rfl⟩:=zMd h
  subst g3
  exact b9 w9 g1 g4 (by decide+kernel) (hL X C _ fa O h1) (by decide) g2 (aE (aL h1).1)
 ·have hx:=zBd h
  clear h
  obtain⟨a,h0,h⟩:=hx
  cases bB h0
  obtain⟨fa,h1,rfl⟩:=zMd h
  subst g3
  exact b9 (nT O.un) g1 g4 (by decide+kernel) (hL X C _ fa O h1) (by decide) g2 (aE (aL h1).1)
 ·split at h
  ·rename_i a
   obtain⟨fa,h1,rfl⟩:=zMd h
   subst g3
   exact b9 (t0 O.hd O.un) g1 g4 (by decide+kernel) (hL X C _ fa O h1) (by decide) g2 (aE (aL h1).1)
  ·have hx:=zBd h
   clear h
   obtain⟨⟨a,b⟩,h0,h⟩:=hx
   cases mL h0
   obtain⟨fa,h1,h⟩:=zBd h
   obtain⟨fb,h2,rfl⟩:=zMd h
   subst g3
   exact fM (r:=dMin) (op:=fun i j=>if j<i then j else i) (fun _ _=>rfl) (fun x y Q E G H k=>by cases x<;>cases y<;>first | exact⟨_,_,rfl,rfl⟩ | exact k.elim) (oE O.calm) g1 g4 (by decide+kernel) (hE X C _ fa O h1).1 (hE X C _ fb O h2).1 (by decide) g2 (aE (aC h1).1) (aE (aC h2).1)
 ·split at h
  ·rename_i a
   obtain⟨fa,h1,rfl⟩:=zMd h
   subst g3
   exact b9 (tW O.hd) g1 g4 (by decide+kernel) (hL X C _ fa O h1) (by decide) g2 (aE (aL h1).1)
  ·have hx:=zBd h
   clear h
   obtain⟨⟨a,b⟩,h0,h⟩:=hx
   cases mL h0
   obtain⟨fa,h1,h⟩:=zBd h
   obtain⟨fb,h2,rfl⟩:=zMd h
   subst g3
   exact fM (r:=dMax) (op:=fun i j=>if j > i then j else i) (fun _ _=>rfl) (fun x y Q E G H k=>by cases x<;>cases y<;>first | exact⟨_,_,rfl,rfl⟩ | exact k.elim) (oD O.calm) g1 g4 (by decide+kernel) (hE X C _ fa O h1).1 (hE X C _ fb O h2).1 (by decide) g2 (aE (aC h1).1) (aE (aC h2).1)
 ·have hx:=zBd h
  clear h
  obtain⟨⟨a,b⟩,h0,h⟩:=hx
  cases mL h0
  have hx:=zBd h
  clear h
  obtain⟨⟨tn,tp⟩,hv,h⟩:=hx
  cases aU hv
  obtain⟨fa,h1,h⟩:=zBd h
  obtain⟨g,h2,h⟩:=zBd h
  obtain⟨P,h3,rfl⟩:=zMd h
  subst g3
  obtain⟨cv,c1,c2⟩:=aBk O h2 h3
  exact xX O.exc g1 g4 c1 c2 (hE X C _ fa O h1).1 (aE (aC h1).1)
 ·cases h
theorem val3 {e:Expr} {f:F} (h:ME X ad e f) (ht: ∀ whole,isTrue e X.env whole=(do let v←whole;standAt e.pos;holding [v] (truthy v))) (hb: ∀ op es p,e≠ .BoolOp op es p):ME X ad e f∧MT X ad e f∧ ∀ op es p,e= .BoolOp op es p→MW X ad e f:=
 ⟨h,aAx h ht,fun op es p z=>absurd z (hb op es p)⟩
theorem uH {e:Expr} {f:F} (h:MW X ad e f):MT X ad e f:=fun pins s σ H Q I t=>h _ pins s σ H Q I t
theorem vW {tg:Expr} {xs:List Str} {k:Nat} (h:tgNames tg=some (xs,k)):xs.length=(if k=0 then 1 else k)∧((k != 0)=true→ ∃ es j p,tg= .Tuple es j p):=by
 cases tg<;>try (cases h;done)
 ·cases h
  exact⟨rfl,fun z=>absurd z (by decide)⟩
 ·rename_i es j p
  unfold tgNames at h
  obtain⟨ys,e1,e2⟩:=zBd h
  by_cases hl:2≤ys.length
  ·rw [if_pos hl] at e2
   cases e2
   exact⟨by rw [if_neg (by omega)],fun _=>⟨es,j,p,rfl⟩⟩
  ·rw [if_neg hl] at e2
   cases e2
theorem fY (hE:SndE ad n) (hI:SndI ad n) (O:CtxOk X ad C) {elt tg it:Expr} {ifs:List Expr} {sc:Scope} {pos:Pos} {f:F} (h:denE (n+1) C (.ListComp elt [⟨tg,it,ifs,0⟩] sc pos)=some f):
  ∃ xs k cs fi fc fe,f=rComp k cs fi fc fe∧CompSc X C sc xs cs∧MI X ad tg it fi∧(∀ a b c,it≠ .Set a b c)∧xs.length=(if k=0 then 1 else k)∧(∀ fp s3 H3 pins',PG (cX X (xs++frees sc) sc s3 H3 fp pins') tg (gTg X.K k))∧
   (∀ fp s3 H3 pins',MTs (cX X (xs++frees sc) sc s3 H3 fp pins') ad ifs fc)∧ ∀ fp s3 H3 pins',ME (cX X (xs++frees sc) sc s3 H3 fp pins') ad elt fe:=by
 have h':((tgNames tg).bind fun(xs,k)=>(denI n C (k != 0) it).bind fun fi=>if compOk sc xs then
    (mapO (fun x=>capLoc C x) (frees sc)).bind fun cs=>(match ifs with
    | []=>some none
    | [c]=>(denE n { C with sc:=sc,N:=xs++frees sc } c).map some
    | _=>none).bind fun c=>(denE n { C with sc:=sc,N:=xs++frees sc } elt).map fun e=>rComp k cs fi c e
   else none)=some f:=h
 clear h
 obtain⟨⟨xs,k⟩,e1,h⟩:=zBd h'
 obtain⟨fi,e2,h⟩:=zBd h
 obtain⟨l1,l2⟩:=vW e1
 by_cases hc:compOk sc xs=true
 ·rw [if_pos hc] at h
  obtain⟨cs,e3,h⟩:=zBd h
  obtain⟨fc,e4,h⟩:=zBd h
  obtain⟨fe,e5,e6⟩:=zMd h
  obtain⟨c1,c2,c3,c4,c5,c6,c7⟩:=dQ hc
  have inn: ∀ fp s3 H3 pins',CtxOk (cX X (xs++frees sc) sc s3 H3 fp pins') ad { C with sc:=sc,N:=xs++frees sc }:=fun fp s3 H3 pins'=>aBl O hc e3
  refine⟨xs,k,cs,fi,fc,fe,e6.symm,pJ O hc e3,(hI X C tg it _ fi O l2 e2).1,fun a b c z=> ?_,l1,fun fp s3 H3 pins'=> ?_,fun fp s3 H3 pins'=> ?_,fun fp s3 H3 pins'=>(hE _ _ elt fe (inn fp s3 H3 pins') e5).1⟩
  ·subst z
   exact jP e2
  ·by_cases hcel:cels sc=[]
   case neg=>
    rcases c2 with z | ⟨z,l⟩
    ·exact absurd z hcel
    ·obtain⟨x,rfl⟩:=List.length_eq_one_iff.mp l
     refine xZ (X:=cX X ([x]++frees sc) sc s3 H3 fp pins') (x:=x) c5 e1 rfl rfl ?_ (decide_eq_true z)
     show(relabel sc X.env).names.lookup x=some .cell
     have e7:=aO (env:=X.env) (x:=x) (names:=sc.names)
     rw [c3 x (.head _),z] at e7
     exact e7
   refine aDg (X:=cX X (xs++frees sc) sc s3 H3 fp pins') O.calm c5 e1 fun i x hx=>⟨?_, ?_⟩
   ·show(xs++frees sc)[i]? =some x
    rw [List.getElem?_append_left (List.getElem?_eq_some_iff.mp hx).1]
    exact hx
   ·show(relabel sc X.env).names.lookup x=some .local
    have e7:=aO (env:=X.env) (x:=x) (names:=sc.names)
    rw [c3 x (List.mem_of_getElem? hx),hcel] at e7
    exact e7
  ·split at e4
   ·cases e4
    trivial
   ·obtain⟨g,e8,rfl⟩:=zMd e4
    exact(hE _ _ _ g (inn fp s3 H3 pins') e8).2.1
   ·cases e4
 ·rw [if_neg hc] at h
  cases h
theorem aDj (hE:SndE ad n) (hL:SndL ad n) (hI:SndI ad n):SndE ad (n+1):=by
 intro X C e f O h
 unfold denE at h
 split at h
 ·-- a name
  rename_i x pos
  refine val3 ?_ (fun _=>rfl) (fun _ _ _ z=>nomatch z)
  cases e1:loc C x with
  | some i=>
   rw [e1] at h
   cases h
   obtain⟨v1,v2,v3,v4⟩:=O.vis x i e1
   exact lI v1 v2 v3 v4
  | none=>
   rw [e1] at h
   simp only at h
   split at h
   ·rename_i d e2
    cases h
    obtain⟨g1,g2,u,v,g3,g4,g5⟩:=O.gl e2
    exact oN g1 g3 g4 g5 g2
   ·rename_i k0 n0 f0 e2
    cases h
    obtain⟨g1,g2,r,f,T,hr,hf⟩:=O.gl e2
    subst hf
    exact oN (v:= .ref (ad.fnA k0)) g1 T.mg rfl (fun G=>by unfold Rep;rfl) g2
   ·cases h
 ·obtain⟨d,h1,rfl⟩:=zMd h
  exact val3 (sO h1) (fun _=>rfl) (fun _ _ _ z=>nomatch z)
 ·obtain⟨fa,h1,h⟩:=zBd h
  obtain⟨fb,h2,rfl⟩:=zMd h
  exact val3 (aAs (hE X C _ fa O h1).1 (hE X C _ fb O h2).1) (fun _=>rfl) (fun _ _ _ z=>nomatch z)
 ·obtain⟨fa,h1,h⟩:=zBd h
  obtain⟨q1,q2,_⟩:=hE X C _ fa O h1
  split at h
  ·cases h;exact⟨aAt q1,aAz q2,fun _ _ _ z=>nomatch z⟩
  ·cases h;exact val3 (aAu q1) (fun _=>rfl) (fun _ _ _ z=>nomatch z)
  ·cases h
 ·rename_i op es pos
  split at h
  ·rename_i a b
   obtain⟨fa,h1,h⟩:=zBd h
   obtain⟨fb,h2,rfl⟩:=zMd h
   obtain⟨q1,q2,_⟩:=hE X C _ fa O h1
   obtain⟨r1,r2,_⟩:=hE X C _ fb O h2
   cases op with
   | And=>
    have W:MW X ad (.BoolOp .And [a,b] pos) (rAnd fa fb):=vH q2 (vI r2)
    exact⟨vF q1 (vG r1),uH W,fun _ _ _ _=>W⟩
   | Or=>
    have W:MW X ad (.BoolOp .Or [a,b] pos) (rOr fa fb):=aA1 q2 (vI r2)
    exact⟨aAw q1 (vG r1),uH W,fun _ _ _ _=>W⟩
  ·rename_i a b c r
   obtain⟨fa,h1,h⟩:=zBd h
   obtain⟨fb,h2,rfl⟩:=zMd h
   obtain⟨q1,q2,_⟩:=hE X C _ fa O h1
   obtain⟨r1,r2,r3⟩:=hE X C _ fb O h2
   cases op with
   | And=>
    have W:MW X ad (.BoolOp .And (a::b::c::r) pos) (rAnd fa fb):=vH q2 (r3 _ _ _ rfl)
    exact⟨vF q1 r1,uH W,fun _ _ _ _=>W⟩
   | Or=>
    have W:MW X ad (.BoolOp .Or (a::b::c::r) pos) (rOr fa fb):=aA1 q2 (r3 _ _ _ rfl)
    exact⟨aAw q1 r1,uH W,fun _ _ _ _=>W⟩
  ·cases h
 ·split at h
  ·have hx:=zBd h
   clear h
   obtain⟨b,h0,h⟩:=hx
   cases bB h0
   obtain⟨fa,h1,h⟩:=zBd h
   have look: ∀ {e:Expr} {g:F},(if bsN C e=true then denL n C e else denE n C e)=some g→MLk X ad e g∧notSet e:=fun {e g} h=>by
    split at h
    ·exact⟨(hL X C _ g O h).lk,(aL h).2⟩
    ·exact⟨(hE X C _ g O h).1.look,(aC h).2.1⟩
   have la:=(look h1).1
   split at h
   ·rename_i i hi
    cases h
    obtain⟨x,p,rfl,e1⟩:=aB7 hi
    obtain⟨v1,v2,v3,v4⟩:=O.vis x i e1
    exact⟨aB1 v1 v2 v3 v4 O.un la (dG trivial),aB2 v1 v2 v3 v4 O.un la (dG trivial),fun _ _ _ z=>nomatch z⟩
   ·obtain⟨fb,h2,rfl⟩:=zMd h
    obtain⟨lb,m⟩:=look h2
    exact⟨yJ O.un la lb (dG m),yK O.un la lb (dG m),fun _ _ _ z=>nomatch z⟩
  ·have hx:=zBd h
   clear h
   obtain⟨⟨b,c⟩,h0,h⟩:=hx
   cases mL h0
   obtain⟨fa,h1,h⟩:=zBd h
   obtain⟨fb,h2,h⟩:=zBd h
   obtain⟨fc,h3,rfl⟩:=zMd h
   exact⟨sP O.un (hE X C _ fa O h1).1 (hE X C _ fb O h2).1 (hE X C _ fc O h3).1 (jO (aC h3).2.1),sQ O.un (hE X C _ fa O h1).1 (hE X C _ fb O h2).1 (hE X C _ fc O h3).1 (jO (aC h3).2.1),fun _ _ _ z=>nomatch z⟩
  ·cases h
 ·obtain⟨fc,h1,h⟩:=zBd h
  obtain⟨fa,h2,h⟩:=zBd h
  obtain⟨fb,h3,rfl⟩:=zMd h
  obtain⟨_,c2,_⟩:=hE X C _ fc O h1
  obtain⟨a1,a2,_⟩:=hE X C _ fa O h2
  obtain⟨b1,b2,_⟩:=hE X C _ fb O h3
  exact⟨sR c2 a1 b1,tR c2 a2 b2,fun _ _ _ z=>nomatch z⟩
 ·split at h
  ·rename_i hl
   obtain⟨fs,h1,rfl⟩:=zMd h
   exact val3 (aA2 (nV hE O h1).1 (by rw [hU h1];exact hl)) (fun _=>rfl) (fun _ _ _ z=>nomatch z)
  ·cases h
 ·split at h
  ·rename_i hl
   obtain⟨fs,h1,rfl⟩:=zMd h
   exact val3 (aA3 (nV hE O h1).1 (by rw [hU h1];exact hl)) (fun _=>rfl) (fun _ _ _ z=>nomatch z)
  ·cases h
 ·-- o[..]
  rename_i a b pos
  split at h
  ·rename_i i hi
   obtain⟨g,h2,rfl⟩:=zMd h
   obtain⟨x,p,rfl,e1⟩:=qW hi
   obtain⟨v1,v2,v3,v4⟩:=O.vis x i e1
   exact val3 (aB5 v1 v2 v3 v4 O.un (hE X C _ g O h2).1 (mO (aC h2).2.2)) (fun _=>rfl) (fun _ _ _ z=>nomatch z)
  have hx:=zBd h
  clear h
  obtain⟨fa,h1,h⟩:=hx
  split at h
  ·rename_i lo hi hv
   obtain⟨p,rfl⟩:=qV hv
   obtain⟨fl,h2,h⟩:=zBd h
   obtain⟨fh,h3,rfl⟩:=zMd h
   refine val3 (aA5 (hL X C _ fa O h1).lk ?_ ?_) (fun _=>rfl) (fun _ _ _ z=>nomatch z)
   ·split at h2
    ·cases h2;trivial
    ·obtain⟨k,h4,rfl⟩:=zMd h2
     exact(hE X C _ k O h4).1
   ·split at h3
    ·cases h3;trivial
    ·obtain⟨k,h4,rfl⟩:=zMd h3
     exact(hE X C _ k O h4).1
  ·obtain⟨fb,h2,rfl⟩:=zMd h
   exact val3 (aDf (hL X C _ fa O h1).lk (hE X C _ fb O h2).1 (mO (aC h2).2.2)) (fun _=>rfl) (fun _ _ _ z=>nomatch z)
 ·-- a comprehension
  rename_i elt gens sc pos
  refine val3 ?_ (fun _=>rfl) (fun _ _ _ z=>nomatch z)
  split at h
  ·rename_i tg it ifs as
   split at h
   ·rename_i ha
    subst ha
    obtain⟨xs,k,cs,fi,fc,fe,rfl,S,hi,hset,hxs,hg,hts,he⟩:=fY (pos:=pos) hE hI O h
    exact xF O.calm S hi hset hxs hg hts he
   ·cases h
  ·cases h
 ·-- a call
  rename_i f' as kws pos
  refine val3 ?_ (fun _=>rfl) (fun _ _ _ z=>nomatch z)
  split at h
  ·rename_i hkw
   cases cN hkw
   split at h
   ·rename_i x np
    split at h
    ·rename_i i e1
     by_cases hem:as.isEmpty=true
     ·rw [if_pos hem] at h;cases h
     rw [if_neg hem] at h
     obtain⟨fs,h1,rfl⟩:=zMd h
     obtain⟨q1,q2⟩:=nV hE O h1
     obtain⟨v1,v2,v3,v4⟩:=O.vis x i e1
     cases as with
     | nil=>exact absurd rfl hem
     | cons a es=>exact lP O.fnv (lI v1 v2 v3 v4) q1 (aE (q2 a (.head _))) (eG fun e he=>q2 e (.tail _ he)) rfl
    ·split at h
     ·rename_i k1 k2 fn e2
      by_cases hem:as.isEmpty=true
      ·rw [if_pos hem] at h;cases h
      rw [if_neg hem] at h
      obtain⟨fs,h1,h⟩:=zBd h
      split at h
      ·rename_i hk
       cases h
       obtain⟨g1,g2,r,fa,T,hr,_⟩:=O.gl e2
       obtain⟨q1,q2⟩:=nV hE O h1
       cases as with
       | nil=>exact absurd rfl hem
       | cons a es=>exact xD T hr g1 g2 q1 hk (aE (q2 a (.head _))) (eG fun e he=>q2 e (.tail _ he))
      ·cases h
     ·rename_i p e2
      exact aDi hE hL O e2 h
     ·cases h
   ·rename_i a b sp
    by_cases hem:as.isEmpty=true
    ·rw [if_pos hem] at h;cases h
    rw [if_neg hem] at h
    obtain⟨g,h1,h⟩:=zBd h
    obtain⟨fs,h2,rfl⟩:=zMd h
    obtain⟨q1,q2⟩:=nV hE O h2
    cases as with
    | nil=>exact absurd rfl hem
    | cons a es=>exact lP O.fnv (hE X C _ g O h1).1 q1 (aE (q2 a (.head _))) (eG fun e he=>q2 e (.tail _ he)) rfl
   ·rename_i o m ap
    split at h
    ·rename_i hem
     cases cN hem
     split at h
     ·rename_i hc
      obtain⟨rfl,h0,hl⟩:=hc
      obtain⟨fo,h1,rfl⟩:=zMd h
      refine yA (hE X C _ fo O h1).1 ?_ hl
      cases o<;>first | rfl | (cases h0;done)
     ·cases h
    have hx:=zBd h
    clear h
    obtain⟨a,h0,h⟩:=hx
    cases bB h0
    split at h
    ·rename_i hc
     rw [Bool.and_eq_true] at hc
     obtain⟨fo,h1,h⟩:=zBd h
     obtain⟨fa,h2,h⟩:=zBd h
     have base: ∀ m,attributeBase o m X.env (eval o X.env)=eval o X.env:=by
      intro m
      have h0:=hc.1
      cases o<;>first | rfl | (cases h0;done)
     split at h
     ·rename_i hm
      cases h
      subst hm
      split
      ·exact aBp O.un (hL X C _ fo O h1) (hE X C _ fa O h2).1 (aE (aC h2).1) (base _) hc.2
      ·exact tN O.un (hL X C _ fo O h1) (hE X C _ fa O h2).1 (aE (aC h2).1) (base _) hc.2
     ·split at h
      ·rename_i hm
       cases h
       subst hm
       split
       ·exact aBq O.un (hL X C _ fo O h1) (hE X C _ fa O h2).1 (aE (aC h2).1) (base _) hc.2
       ·exact tP O.un (hL X C _ fo O h1) (hE X C _ fa O h2).1 (aE (aC h2).1) (base _) hc.2
      ·cases h
    ·cases h
   ·cases h
  ·obtain⟨x,p,a,i,g,cj,cp,kp,rfl,rfl,rfl,e1,e2,rfl⟩:=uG h
   obtain⟨r1,r2,r3,r4⟩:=O.gl e1
   subst r3
   exact yG r1 r4 O.hd (hL X C _ g O e2) (aE (aL e2).1)
 ·cases h
theorem aDk (hE:SndE ad n):SndL ad (n+1):=by
 intro X C e f O h
 unfold denL at h
 split at h
 ·rename_i x p
  cases e1:loc C x with
  | some i=>
   rw [e1] at h
   cases h
   obtain⟨v1,v2,v3,v4⟩:=O.vis x i e1
   exact oP v1 v2 v3 v4
  | none=>
   rw [e1] at h
   exact(hE X C _ f O h).1.ml
 ·exact(hE X C _ f O h).1.ml
theorem yO (hE: ∀ m,m<n→SndE ad m) {X:Cx} {C:SK.Ctx} {e:Expr} {f:F} (O:CtxOk X ad C) (hn: ∀ x p,e≠ .Name x p) (h:denL n C e=some f):ME X ad e f:=by
 cases n with
 | zero=>cases h
 | succ n=>
  have:denE n C e=some f:=by
   rw [←h]
   cases e<;>first | rfl | exact absurd rfl (hn _ _)
  exact(hE n (Nat.lt_succ_self _) X C e f O this).1
theorem aDl (hE: ∀ m,m<n+1→SndE ad m) (hL:SndL ad n):SndI ad (n+1):=by
 intro X C tg e tt f O htt h
 have hEn:=hE n (Nat.lt_succ_self _)
 unfold denI at h
 have it: ∀ {x:Str} {as:List Expr} {np q:Pos},denIt (denE n C) C tt x as=some f→MI X ad tg (.Call (.Name x np) as [] q) f∧MIG X ad tg (.Call (.Name x np) as [] q) f:=by
  intro x as np q h
  unfold denIt at h
  split at h
  ·rename_i a eg
   obtain⟨fa,h1,rfl⟩:=zMd h
   obtain⟨g1,g2,g3,g4⟩:=O.gl eg
   subst g3
   have me:=(hEn X C _ fa O h1).1
   exact⟨sW g1 g4 me (aE (aC h1).1),o8 g1 g4 me (aE (aC h1).1)⟩
  ·rename_i a b eg
   split at h
   ·rename_i ht
    obtain⟨fa,h1,h⟩:=zBd h
    obtain⟨fb,h2,rfl⟩:=zMd h
    obtain⟨g1,g2,g3,g4⟩:=O.gl eg
    subst g3
    obtain⟨es,k,p,rfl⟩:=htt ht
    have ma:=(hEn X C _ fa O h1).1
    have mb:=(hEn X C _ fb O h2).1
    exact⟨aBm g1 g4 ma mb (aE (aC h1).1) (aE (aC h2).1),x8 g1 g4 ma mb (aE (aC h1).1) (aE (aC h2).1)⟩
   ·cases h
  ·rename_i a eg
   split at h
   ·rename_i ht
    obtain⟨fa,h1,rfl⟩:=zMd h
    obtain⟨g1,g2,g3,g4⟩:=O.gl eg
    subst g3
    obtain⟨es,k,p,rfl⟩:=htt ht
    have ma:=(hEn X C _ fa O h1).1
    exact⟨x9 g1 g4 ma (aE (aC h1).1),tQ g1 g4 ma (aE (aC h1).1)⟩
   ·cases h
  ·cases h
 split at h
 ·rename_i f' as kws q
  split at h
  ·rename_i x p
   split at h
   ·exact⟨(it h).1,fun _=>(it h).2⟩
   ·exact⟨(it h).1,fun _=>(it h).2⟩
   ·exact⟨(it h).1,fun _=>(it h).2⟩
   ·have me:=(hEn X C _ f O h).1
    exact⟨lS me.ml,fun _=>eR me⟩
  ·have me:=(hEn X C _ f O h).1
   exact⟨lS me.ml,fun _=>eR me⟩
 ·split at h
  ·rename_i i hi
   cases h
   obtain⟨x,p,rfl,e1⟩:=qW hi
   obtain⟨v1,v2,v3,v4⟩:=O.vis x i e1
   exact⟨yN v1 v2 v3 v4,fun hn=>absurd rfl (hn x p)⟩
  ·refine⟨lS (hL X C _ f O h),fun hn=>eR (yO (fun m hm=>hE m (by omega)) O hn h)⟩
theorem kU: ∀ n,SndE ad n∧SndL ad n∧SndI ad n:=by
 have main: ∀ n, ∀ m,m≤n→SndE ad m∧SndL ad m∧SndI ad m:=by
  intro n
  induction n with
  | zero=>
   intro m hm
   have:m=0:=by omega
   subst this
   refine⟨?_, ?_, ?_⟩
   ·intro X C e f O h
    unfold denE at h
    cases h
   ·intro X C e f O h
    unfold denL at h
    cases h
   ·intro X C tg e tt f O _ h
    unfold denI at h
    cases h
  | succ n ih=>
   intro m hm
   by_cases hmn:m≤n
   ·exact ih m hmn
   ·have:m=n+1:=by omega
    subst this
    obtain⟨a,b,c⟩:=ih n (Nat.le_refl _)
    exact⟨aDj a b c,aDk a,aDl (fun m hm=>(ih m (by omega)).1) b⟩
 exact fun n=>main n n (Nat.le_refl _)
end
noncomputable abbrev vErr:List Value:=[.type "ValueError", .type "Exception", .type "BaseException", .type "object"]
structure StOk (X:Cx) (ad:Ad) (C:SK.Ctx):Prop where
 cx:CtxOk X ad C
 fn: ∀ x,X.fn x=true
 sc:X.env.scope=C.sc
 lc: ∀ x i,loc C x=some i→Loc X.env.scope x
 fr:Fram X
 exm: ∀ c,exmOne X.K (.ref (ad.cls c)) (.ref (ad.cls 0))=some true
 exi: ∀ c,excIn X.K (ad.cls c) vErr "ValueError.__new__"=true
noncomputable def Zt (ad:Ad) (E₀:XK) (t:Bool):(St→Nat→Hp→Prop)→Prop:=fun E=>t=false→ ∀ σ c H,E σ c H→E₀ (.ref (ad.cls c)) none H
section
variable {X:Cx} {ad:Ad} {C:SK.Ctx} {E₀:XK} {t:Bool} {e it tg:Expr} {f:F} {g h:FS} {x:Str} {i:Nat} {pos pos':Pos} {st:Stmt}
theorem StOk.nm (O:StOk X ad C) (h:loc C x=some i):NmOk X x i:=⟨(O.cx.vis x i h).1,O.lc x i h, .inl (O.fn x)⟩
theorem StOk.nms (O:StOk X ad C): ∀ {xs:List Str} {is:List Nat},mapO (fun x=>loc C x) xs=some is→NmsOk X xs is
 | [],_,h=>by cases h;exact .nil
 | x::xs,is,h=>by
  unfold mapO at h
  cases e:loc C x with
  | none=>rw [e] at h;cases h
  | some j=>
   rw [e] at h
   obtain⟨r,h1,h2⟩:=zMd h
   subst h2
   exact .cons (O.nm e) (O.nms h1)
theorem nW {elt:Expr} {gens:List Comprehension} {sc:Scope} {cpos:Pos} {line:Nat} {env:PySem.Env}: ∃ b,swapsWith (.ListComp elt gens sc cpos) (some (.Name x pos')) line env=pure b:=⟨_,rfl⟩
theorem vX (O:StOk X ad C) (h:denE 50 C e=some f) (hi:loc C x=some i):PS X (.Assign [.Name x pos'] e pos) (tAsg (tE X ad f) (gName i)):=by
 obtain⟨h1,h2,h3⟩:=kU (ad:=ad) 49
 obtain⟨k1,_,_⟩:=kU (ad:=ad) 50
 have nm:=O.nm hi
 have me:=(k1 X C e f O.cx h).1
 by_cases hc: ∃ elt gens sc cpos,e= .ListComp elt gens sc cpos
 ·obtain⟨elt,gens,sc,cpos,rfl⟩:=hc
  obtain⟨b,hb⟩:=nW (x:=x) (pos':=pos') (elt:=elt) (gens:=gens) (sc:=sc) (cpos:=cpos) (line:=pos.line) (env:=X.env)
  cases b with
  | false=>exact oB O.cx.nd nm.1 nm.2.1 me hb nm.2.2
  | true=>
   have hgen: ∃ tg it ifs,gens=[⟨tg,it,ifs,0⟩]:=by
    unfold denE at h
    simp only at h
    split at h
    ·rename_i tg it ifs as
     split at h
     ·rename_i ha
      subst ha
      exact⟨_,_,_,rfl⟩
     ·cases h
    ·cases h
   obtain⟨tg,it,ifs,rfl⟩:=hgen
   obtain⟨xs,k,cs,fi,fc,fe,rfl,S,hi',hset,hxs,hg,hts,he⟩:=fY h1 h3 O.cx h
   exact xU O.cx.nd nm O.cx.calm S hi' hset hxs hg hts he hb
 ·refine oB O.cx.nd nm.1 nm.2.1 me ?_ nm.2.2
  have nf:=aC h
  cases e<;>first | rfl | exact absurd ⟨_,_,_,_,rfl⟩ hc | (unfold denE at h;cases h;done)
theorem yP {e:Expr} (h:isD0 e=true): ∃ p,e= .Dict [] [] p:=by
 cases e<;>try (cases h;done)
 rename_i ks vs p
 have h':(ks.isEmpty&&vs.isEmpty)=true:=h
 rw [Bool.and_eq_true,List.isEmpty_iff,List.isEmpty_iff] at h'
 exact⟨p,by rw [h'.1,h'.2]⟩
theorem yQ {Z:(St→Nat→Hp→Prop)→Prop} (P:PS X st (tAsg (tE X ad f) (gName i))):MS X ad Z st (sSet i f):=by
 refine PS.imp P ?_
 rintro D' σ H ⟨G₀,G,ρ,E,S,hx,hr⟩
 exact bO S hx hr fun v d G1 H1 st r k=>k _ G1 H1 ((S.step st).set r)
theorem yR {Z:(St→Nat→Hp→Prop)→Prop} (P:PS X st (tAsg (tE X ad f) (gName i))):MS X ad Z st (sOwn i f):=by
 refine PS.imp P ?_
 rintro D' σ H ⟨G₀,G,ρ,E,S,hx,hr⟩
 exact aBa S hx hr
noncomputable def gLstN (K:PySem.W.Frag) (n:Nat) (t:TGs):TG:=fun v σ H Q=> ∃ a xs,v= .ref a∧SqL K H a xs∧xs.length=n∧t xs σ H Q
theorem yS {es:List Expr} {k:Nat} {t:TGs} {n:Nat} (hc:X.calm=true) (h:PGs X es t) (hn:(assignEach es X.env).length=n) (hst:(assignEach es X.env).findIdx? (·.1)=none):PG X (.Tuple es k pos) (gLstN X.K n t):=by
 intro pins s σ H v u Q I r hw
 obtain⟨a,xs,e1,hq,hl,hw⟩:=hw
 subst e1
 cases r
 obtain⟨its,rv,ht,hz⟩:=I.list hq
 have hlen:its.toArray.size=n:=by simp [←hl,rv.length]
 rw [assign_Tuple]
 refine wpAny_bind (wpAny_standAt ?_)
 unfold unpack
 rw [hn,hst, ←hlen]
 refine wpAny_bind (wpAny_holding (kun_itemsOf (I.ok.hd hc) ht.isList fun h' hx=> ?_))
 have I1:Inv X pins σ H { s with heap:=h' }:=I.kept (t':=s.toks) fun b o e=>hx b o (Nat.ne_of_lt (Heap.lt_size e)) e
 exact h pins _ σ H xs _ Q I1 (by simpa using rv) hw
theorem aDm {g1 g2:TG} (h1:PG X tg g1) (h2:PG X tg g2):PG X tg (fun v σ H Q=>g1 v σ H Q∨g2 v σ H Q):=by
 intro pins s σ H v u Q I r h
 rcases h with h | h
 ·exact h1 pins s σ H v u Q I r h
 ·exact h2 pins s σ H v u Q I r h
theorem yT {Z:(St→Nat→Hp→Prop)→Prop} {es:List Expr} {k j:Nat} {tp:Pos} {xs:List Str} {is:List Nat} (O:StOk X ad C) (he:ME X ad e f) (hs:swapsWithSole [.Tuple es j tp] e pos.line X.env=pure false) (hw:swappedStores [.Tuple es j tp] e X.env=pure none) (ht:tgNames (.Tuple es j tp)=some (xs,k)) (hn:NmsOk X xs is):MS X ad Z (.Assign [.Tuple es j tp] e pos) (sSetN is f):=by
 obtain⟨P,hk⟩:=aBe O.cx.calm O.cx.nd ht hn
 have k0:k≠0:=by
  unfold tgNames at ht
  obtain⟨ys,e1,e2⟩:=zBd ht
  by_cases hl:2≤ys.length
  ·rw [if_pos hl] at e2
   cases e2
   omega
  ·rw [if_neg hl] at e2
   cases e2
 have hb:(k==0)=false:=by simpa using k0
 have PL:PG X (.Tuple es j tp) (gLstN X.K is.length (gIs is)):=by
  unfold tgNames at ht
  obtain⟨ys,e1,e2⟩:=zBd ht
  by_cases hl:2≤ys.length
  ·rw [if_pos hl] at e2
   cases e2
   obtain⟨q1,q2⟩:=dP (X:=X) e1
   exact yS O.cx.calm (pC O.cx.nd e1 hn) (by rw [q1,hn.len]) q2
  ·rw [if_neg hl] at e2
   cases e2
 refine PS.imp (vA he (aDm P PL) hs hw rfl) ?_
 rintro D' σ H ⟨G₀,G,ρ,E,S,hx,hr⟩
 unfold sSetN at hr
 refine bO S hx hr fun v d G1 H1 st r q=> ?_
 cases d<;>try exact False.elim q
 case lst ds=>
  have q':OKo X ad G₀ (if ds.length=is.length then .nx (setN is ds ρ) else .rt .bad) D' E:=q
  by_cases hl:ds.length=is.length
  ·rw [if_pos hl] at q'
   unfold Rep at r
   obtain⟨a,vs,rfl,hq,rq⟩:=r
   exact .inr ⟨a,vs,rfl,st.gh.seq hq,by rw [rq.length,hl],o9 (by rw [rq.length,hl]) (q' _ G1 H1 ((S.step st).setN rq))⟩
  ·rw [if_neg hl] at q'
   exact q'.elim
 rename_i ds
 refine .inl ?_
 have q':OKo X ad G₀ (if ds.length=is.length then .nx (setN is ds ρ) else .rt .bad) D' E:=q
 by_cases hl:ds.length=is.length
 ·rw [if_pos hl] at q'
  refine vM (ρ1:=setN is ds ρ) hk ?_ (S.step st) r fun σ1 S1=>q' σ1 G1 H1 S1
  rw [hb]
  have e0:tgtS is false (.tup ds) ρ=if ds.length=is.length then some (setN is ds ρ) else none:=by
   cases is with
   | nil=>rfl
   | cons _ _=>rfl
  rw [e0,if_pos hl]
 ·rw [if_neg hl] at q'
  exact q'.elim
theorem vY {env:PySem.Env} {x y:Str} {px py pt pt2:Pos} {a b:Expr} {kt k2:Nat} {p q:Prop} (h:((env.scope.names.lookup x=some .cell∨env.scope.names.lookup y=some .cell)∧p)∧q):swappedStores [.Tuple [.Name x px, .Name y py] kt pt] (.Tuple [a,b] k2 pt2) env=pure none:=by
 unfold swappedStores
 have kx:env.kindOf x=env.scope.names.lookup x:=rfl
 have ky:env.kindOf y=env.scope.names.lookup y:=rfl
 rcases h.1.1 with e | e
 ·simp [kx,ky,e,List.filterMap,Expr.pos]
  intro _ _ _ h2
  exfalso;revert h2
  (repeat' split)<;>simp
 ·simp [kx,ky,e,List.filterMap,Expr.pos]
  intro _ _ _ h2
  exfalso;revert h2
  (repeat' split)<;>simp
theorem yU {op:Operator} (h:addB op=true):op= .Add:=by
 cases op<;>first | rfl | (cases h;done)
theorem qX {op:Operator} (h:addsub op=true):op= .Add∨op= .Sub:=by
 cases op<;>first | exact .inl rfl | exact .inr rfl | (cases h;done)
theorem aC1 {pins:List (Addr×Obj)} {D':Ends} {hd:ExceptHandler} (O:StOk X ad C):StOk (tX X pins D' hd) ad C:=by
 refine⟨⟨O.cx.N,O.cx.nd,O.cx.vis,O.cx.gk,fun x g e=> ?_,O.cx.cap,O.cx.calm,O.cx.un,O.cx.hd,O.cx.exc,O.cx.kin,O.cx.kve,fun j n F e=>let ⟨r,T,hr⟩:=O.cx.fnv j n F e;⟨r,⟨T.kp,T.ok⟩,hr⟩⟩,O.fn,O.sc,O.lc,⟨O.fr.ex,O.fr.stk,O.fr.fr⟩,O.exm,O.exi⟩
 obtain⟨e1,e2⟩:=O.cx.gt x g e
 refine⟨e1, ?_⟩
 cases g with
 | fn k n F=>
  obtain⟨r,f,T,hr,hf⟩:=e2
  exact⟨r,f,⟨T.mg,T.kp,T.ok⟩,hr,hf⟩
 | exc c=>exact e2
 | verr=>exact e2
 | val d=>exact e2
 | py p=>exact e2
theorem uI {e:Expr} (h:isStr e=true): ∃ s k p,e= .Constant (.str s) k p:=by
 cases e<;>try (cases h;done)
 rename_i c k p
 cases c<;>try (cases h;done)
 exact⟨_,k,p,rfl⟩
def SndS (ad:Ad) (E₀:XK) (n:Nat):Prop:= ∀ (X:Cx) (C:SK.Ctx) (t:Bool) (s:Stmt) (g:FS),StOk X ad C→(t=false→DefX X E₀∧PassesOwn (model X.prog X.w) X.A X.env X.xe)→denS n t C s=some g→MS X ad (Zt ad E₀ t) s g
def SndSs (ad:Ad) (E₀:XK) (n:Nat):Prop:= ∀ (X:Cx) (C:SK.Ctx) (t:Bool) (s:List Stmt) (g:FS),StOk X ad C→(t=false→DefX X E₀∧PassesOwn (model X.prog X.w) X.A X.env X.xe)→denSs n t C s=some g→MSs X ad (Zt ad E₀ t) s g
theorem Zt.imp {Z Z':(St→Nat→Hp→Prop)→Prop} (h:MS X ad Z st g) (k: ∀ E,Z' E→Z E):MS X ad Z' st g:=PS.imp h fun D' σ H ⟨G₀,G,ρ,E,S,hx,hr⟩=>⟨G₀,G,ρ,E,S,⟨hx.1,k E hx.2⟩,hr⟩
theorem Zts.imp {Z Z':(St→Nat→Hp→Prop)→Prop} {sts:List Stmt} (h:MSs X ad Z sts g) (k: ∀ E,Z' E→Z E):MSs X ad Z' sts g:=PSs.imp h fun D' σ H ⟨G₀,G,ρ,E,S,hx,hr⟩=>⟨G₀,G,ρ,E,S,⟨hx.1,k E hx.2⟩,hr⟩
theorem aDn {n:Nat} (hS:SndSs ad E₀ n):SndS ad E₀ (n+1):=by
 intro X C t s g O hd h
 obtain⟨kE,kL,kI⟩:=kU (ad:=ad) 50
 unfold denS at h
 split at h
 ·cases h;exact xJ
 ·cases h;exact sX
 ·cases h;exact kM
 ·-- return
  split at h
  ·cases h;exact xM
  ·split at h
   ·rename_i x p hv
    cases aU hv
    split at h
    ·rename_i i e1
     obtain⟨v1,v2,v3,v4⟩:=O.cx.vis x i e1
     split at h
     ·cases h;exact xN v1 v2 v3 v4
     ·cases h;exact o7 (lI v1 v2 v3 v4)
    ·obtain⟨f,h1,rfl⟩:=zMd h
     exact o7 (kE X C _ f O.cx h1).1
   ·obtain⟨f,h1,rfl⟩:=zMd h
    exact bP (o7 (kE X C _ f O.cx h1).1)
 ·-- an assignment
  rename_i ts e pos
  have hx:=zBd h
  clear h
  obtain⟨tg,h0,h⟩:=hx
  cases bB h0
  split at h
  ·-- x=e
   obtain⟨i,h1,h⟩:=zBd h
   split at h
   ·rename_i hc
    cases h
    rw [Bool.and_eq_true] at hc
    obtain⟨dp,rfl⟩:=yP hc.1
    have nm:=O.nm h1
    exact yI O.cx.nd nm.1 nm.2.1 rfl nm.2.2
   ·obtain⟨f,h2,rfl⟩:=zMd h
    refine bP ?_
    split
    ·exact yR (vX O h2 h1)
    ·exact yQ (vX O h2 h1)
  ·-- a,b=e
   obtain⟨u,h0,h⟩:=zBd h
   obtain⟨⟨xs,k⟩,h1,h⟩:=zBd h
   obtain⟨is,h2,h⟩:=zBd h
   split at h
   ·obtain⟨f,h3,rfl⟩:=zMd h
    have hf:callish e=true:=by
     split at h0
     ·assumption
     ·cases h0
    exact bP (yT O (kE X C _ f O.cx h3).1 (by cases e<;>first | rfl | (cases hf;done)) (by cases e<;>first | rfl | (cases hf;done)) h1 (O.nms h2))
   ·cases h
  ·-- x[k]=e
   rename_i o k tp
   have hx:=zBd h
   clear h
   obtain⟨⟨x,p⟩,hv,h⟩:=hx
   cases aU hv
   obtain⟨i,h1,h⟩:=zBd h
   obtain⟨v1,v2,v3,v4⟩:=O.cx.vis x i h1
   split at h
   ·obtain⟨f,h2,h⟩:=zBd h
    obtain⟨g,h3,rfl⟩:=zMd h
    refine bP (aB0 O.cx.un v1 v2 v3 v4 (kE X C _ f O.cx h2).1 (kE X C _ g O.cx h3).1 (fun v=> ?_) ?_ ?_)
    ·have ns:=(aC h3).2.2
     cases k<;>first | rfl | exact absurd rfl (ns _ _ _ _)
    ·cases e<;>rfl
    ·cases e<;>rfl
   ·cases h
  ·cases h
 ·-- x += e
  split at h
  ·rename_i o k tp
   have hx:=zBd h
   clear h
   obtain⟨⟨x,p⟩,hv,h⟩:=hx
   cases aU hv
   obtain⟨i,h1,h⟩:=zBd h
   obtain⟨v1,v2,v3,v4⟩:=O.cx.vis x i h1
   split at h
   ·rename_i hc
    obtain⟨f,h2,h⟩:=zBd h
    obtain⟨g,h3,rfl⟩:=zMd h
    cases yU (Bool.and_eq_true_iff.mp hc).2
    refine bP (xT v1 v2 v3 v4 (kE X C _ f O.cx h2).1 (kE X C _ g O.cx h3).1 (fun _ _ _=> ?_))
    have ns:=(aC h3).2.2
    cases k<;>first | rfl | exact absurd rfl (ns _ _ _ _)
   ·cases h
  ·have hx:=zBd h
   clear h
   obtain⟨⟨x,p⟩,hv,h⟩:=hx
   cases aU hv
   obtain⟨u,h0,h⟩:=zBd h
   obtain⟨i,h1,h⟩:=zBd h
   obtain⟨f,h2,rfl⟩:=zMd h
   refine bP (aBh O.cx.nd (O.nm h1) (kE X C _ f O.cx h2).1 ?_)
   split at h0
   ·exact qX ‹_›
   ·cases h0
 ·-- an expression
  split at h
  ·rename_i f' as kws cp
   split at h
   ·rename_i hkw
    cases cN hkw
    split at h
    ·-- x.append(e)
     rename_i o m ap
     have hx:=zBd h
     clear h
     obtain⟨⟨x,p⟩,hv,h⟩:=hx
     cases aU hv
     have hx:=zBd h
     clear h
     obtain⟨e,ho,h⟩:=hx
     cases bB ho
     obtain⟨i,h1,h⟩:=zBd h
     obtain⟨v1,v2,v3,v4⟩:=O.cx.vis x i h1
     split at h
     ·rename_i hc
      rw [Bool.and_eq_true] at hc
      obtain⟨f,h2,h⟩:=zBd h
      have me:=(kE X C _ f O.cx h2).1
      have ns:=aE (es:=[]) (env:=X.env) (aC h2).1
      split at h
      ·rename_i hm
       cases h
       subst hm
       exact bP (aBb v1 v2 v3 v4 me ns hc.2)
      ·split at h
       ·rename_i hm
        cases h
        subst hm
        exact bP (aBd v1 v2 v3 v4 me ns hc.2)
       ·split at h
        ·rename_i hm
         cases h
         subst hm
         exact bP (aB3 v1 v2 v3 v4 me ns hc.2)
        ·cases h
     ·cases h
    ·obtain⟨f,h1,rfl⟩:=zMd h
     exact bP (xO (kE X C _ f O.cx h1).1 rfl)
    ·cases h
   ·cases h
  ·cases h
 ·obtain⟨f,h1,h⟩:=zBd h
  obtain⟨ga,h2,h⟩:=zBd h
  obtain⟨gb,h3,rfl⟩:=zMd h
  exact bP (aDh (kE X C _ f O.cx h1).2.1 (hS X C t _ ga O hd h2) (hS X C t _ gb O hd h3))
 ·-- for
  rename_i tg it b els pos
  cases t with
  | true=>cases h
  | false=>
   cases els with
   | cons _ _=>cases h
   | nil=>
    simp only [Bool.false_or,List.isEmpty_nil,Bool.not_true,Bool.false_eq_true,if_false] at h
    obtain⟨⟨xs,k⟩,h1,h⟩:=zBd h
    obtain⟨f,h2,h⟩:=zBd h
    obtain⟨is,h3,h⟩:=zBd h
    split at h
    ·obtain⟨gb,h4,rfl⟩:=zMd h
     have mig:MIG X ad tg it f∧ ∀ a b c,it≠ .Set a b c:=by
      unfold denF at h2
      split at h2
      ·split at h2
       ·rename_i i hi
        cases h2
        obtain⟨x',p',e0,e1⟩:=qW hi
        cases e0
        obtain⟨v1,v2,v3,v4⟩:=O.cx.vis _ i e1
        exact⟨aB6 v1 v2 v3 v4 (eR (lI v1 v2 v3 v4)),fun _ _ _ z=>nomatch z⟩
       ·exact⟨eR (kE X C _ f O.cx h2).1,fun _ _ _ z=>nomatch z⟩
      ·rename_i hn
       exact⟨(kI X C tg _ _ f O.cx (vW h1).2 h2).2 (fun x p z=>hn x p z),fun a b c z=>by subst z;exact jP h2⟩
     exact bP (aBf (hd rfl).2 O.cx.calm O.cx.nd mig.1 h1 (O.nms h3) (hS X C false _ gb O hd h4) (noSet mig.2))
    ·cases h
 ·-- while
  rename_i c b els pos
  cases t with
  | true=>cases h
  | false=>
   cases els with
   | cons _ _=>cases h
   | nil=>
    simp only [Bool.false_or,List.isEmpty_nil,Bool.not_true,Bool.false_eq_true,if_false] at h
    obtain⟨f,h1,h⟩:=zBd h
    obtain⟨gb,h2,rfl⟩:=zMd h
    exact bP (sZ (hd rfl).2 (kE X C _ f O.cx h1).2.1 (hS X C false _ gb O hd h2))
 ·-- raise
  rename_i x c pos
  cases t with
  | true=>cases h
  | false=>
   cases c with
   | some _=>cases h
   | none=>
    simp only [Bool.false_or,Option.isSome_none,Bool.false_eq_true,if_false] at h
    have hx:=zBd h
    clear h
    obtain⟨e,rfl,h⟩:=hx
    split at h
    ·rename_i f' as kws cp
     split at h
     ·rename_i hkw
      cases cN hkw
      have hx:=zBd h
      clear h
      obtain⟨⟨x,p⟩,hv,h⟩:=hx
      cases aU hv
      have hx:=zBd h
      clear h
      obtain⟨a,ho,h⟩:=hx
      cases bB ho
      split at h
      ·rename_i hstr
       obtain⟨sx,k1,k2,rfl⟩:=uI hstr
       split at h
       ·rename_i c e1 e2
        cases h
        obtain⟨g1,g2,g3,g4⟩:=O.cx.gl e2
        exact Zt.imp (tH (hd rfl).1 O.cx.calm g1 g3 g2 (O.exi c)) fun E z=>z rfl
       ·cases h
      ·cases h
     ·cases h
    ·cases h
 ·cases h
theorem aB8 {n:Nat} (hS:SndS ad E₀ n) (hSs:SndSs ad E₀ n):SndSs ad E₀ (n+1):=by
 intro X C t s g O hd h
 have hB: ∀ a:Stmt,MS X ad (Zt ad E₀ t) a ((denS n t C a).getD sBad):=fun a=>by
  cases e:denS n t C a with
  | none=>exact aBg
  | some f=>exact hS X C t a f O hd e
 unfold denSs at h
 split at h
 ·cases h;exact xK
 ·cases h;exact xL (hB _)
 ·obtain⟨r,h2,rfl⟩:=zMd h
  exact sY (hB _) (hSs X C t _ r O hd h2)
theorem qY: ∀ n,SndS ad E₀ n∧SndSs ad E₀ n:=by
 intro n
 induction n with
 | zero=>
  refine⟨?_, ?_⟩
  ·intro X C t s g O hd h
   unfold denS at h
   cases h
  ·intro X C t s g O hd h
   unfold denSs at h
   cases h
 | succ n ih=>exact⟨aDn ih.2,aB8 ih.1 ih.2⟩
end
noncomputable def GlT (P:Program) (w:World) (K:Frag) (mg:Str→Option Value) (base:Heap) (ad:Ad) (k:Nat) (x:Str):SK.Gl→Prop
 | .fn j n F=> ∃ r f,r≤k∧mg x=some (.ref f)∧keepIn K (.ref f)=true∧(∃ fd ps,FnOk P w K mg base (CXe P w) r f fd ps (spOf K ad n F)∧Binds K fd ps [])∧f=ad.fnA j
 | .exc c=>mg x=some (.ref (ad.cls c))∧c<ad.nb
 | .verr=>x="ValueError"∧mg x=none
 | .val d=> ∃ u v,mg x=some u∧RelV v u∧ ∀ G,Rep K ad G d v
 | .py p=>x=pyName p∧mg x=none
def TabOk (P:Program) (w:World) (K:Frag) (mg:Str→Option Value) (base:Heap) (ad:Ad) (k:Nat) (tab:List (Str×SK.Gl)):Prop:= ∀ x g,tab.lookup x=some g→(x==("__debug__":Str))=false∧GlT P w K mg base ad k x g
def FnsOk (P:Program) (w:World) (K:Frag) (mg:Str→Option Value) (base:Heap) (ad:Ad) (k:Nat) (fns:List (Nat×Fn)):Prop:= ∀ j n F,fns[j]? =some (n,F)→ ∃ r,r≤k∧keepIn K (.ref (ad.fnA j))=true∧ ∃ fd ps,FnOk P w K mg base (CXe P w) r (ad.fnA j) fd ps (spOf K ad n F)∧Binds K fd ps []
structure ExcK (K:Frag) (ad:Ad):Prop where
 exc: ∀ c,ExcCls K (ad.cls c)
 kin: ∀ c e,c<ad.nb→kitOne K (.ref (ad.cls e)) (.ref (ad.cls c))=some (hit c e)
 kve: ∀ e,kitOne K (.ref (ad.cls e)) (.type "ValueError")=some true
 exm: ∀ c,exmOne K (.ref (ad.cls c)) (.ref (ad.cls 0))=some true
 exi: ∀ c,excIn K (ad.cls c) vErr "ValueError.__new__"=true
section
variable {P:Program} {w:World} {K:Frag} {mg:Str→Option Value} {base:Heap} {ad:Ad} {k:Nat} {tab:List (Str×SK.Gl)}
theorem GlT.mono {x:Str} {g:SK.Gl} {j:Nat} (h:GlT P w K mg base ad k x g) (hk:k≤j):GlT P w K mg base ad j x g:=by
 cases g with
 | fn i n F=>
  obtain⟨r,f,a,b⟩:=h
  exact⟨r,f,Nat.le_trans a hk,b⟩
 | exc c=>exact h
 | verr=>exact h
 | val d=>exact h
 | py p=>exact h
theorem TabOk.mono {j:Nat} (h:TabOk P w K mg base ad k tab) (hk:k≤j):TabOk P w K mg base ad j tab:=fun x g e=>⟨(h x g e).1,(h x g e).2.mono hk⟩
theorem qZ {a:Addr} {o:Obj} {its:Array Value} {n:Nat} {ds:List D} {vs:List V} {G:Hp} (h:K.lookup a=some o) (hc:o.cls= .type "tuple") (hd:o.dict=none) (hs:o.data= .seq its n) (hz:its.size≤sizeLine) (hv:Vals vs its.toList) (hr:Reps K ad G ds vs):Rep K ad G (.tup ds) (.ref a):=by
 unfold Rep
 exact⟨a,vs,rfl, .inr ⟨o,its,n,h,hc,hd,hs,hz,hv⟩,hr⟩
theorem TabOk.nil:TabOk P w K mg base ad k []:=fun x g e=>by cases e
theorem TabOk.cons {x:Str} {g:SK.Gl} (h:TabOk P w K mg base ad k tab) (hd:(x==("__debug__":Str))=false) (hg:GlT P w K mg base ad k x g):TabOk P w K mg base ad k ((x,g)::tab):=by
 intro y g' e
 rw [List.lookup_cons] at e
 cases q:y==x with
 | true=>
  rw [q] at e
  cases e
  have:y=x:=by simpa using q
  subst this
  exact⟨hd,hg⟩
 | false=>
  rw [q] at e
  exact h y g' e
theorem FnsOk.nil:FnsOk P w K mg base ad k []:=fun j n F e=>by simp at e
theorem FnsOk.snoc {fns:List (Nat×Fn)} {j n:Nat} {F:Fn} {r k':Nat} {f:Addr} {fd:FuncData} {ps:List Str} (h:FnsOk P w K mg base ad k fns) (hk:k≤k') (hl:fns.length=j) (hf:f=ad.fnA j) (hr:r≤k') (kp:keepIn K (.ref f)=true) (ok:FnOk P w K mg base (CXe P w) r f fd ps (spOf K ad n F)) (hb:Binds K fd ps []):
  FnsOk P w K mg base ad k' (fns++[(n,F)]):=by
 intro i m G e
 subst hf
 by_cases hi:i<fns.length
 ·rw [List.getElem?_append_left hi] at e
  obtain⟨r',h1,h2⟩:=h i m G e
  exact⟨r',Nat.le_trans h1 hk,h2⟩
 ·rw [List.getElem?_append_right (by omega)] at e
  cases hq:i - fns.length with
  | zero=>
   rw [hq] at e
   cases e
   have:i=j:=by omega
   subst this
   exact⟨r,hr,kp,fd,ps,ok,hb⟩
  | succ q=>rw [hq] at e;simp at e
theorem kW {N Ps:List Str} {sc:Scope} (h:scopeOk N Ps sc=true):FnScope N Ps sc∧ ∀ x∈N,(x==("__debug__":Str))=false∧(x==("__classdict__":Str))=false:=by
 unfold scopeOk at h
 simp only [Bool.and_eq_true] at h
 obtain⟨⟨⟨⟨⟨⟨⟨h1,h2⟩,h3⟩,h4⟩,h5⟩,h6⟩,h7⟩,h8⟩:=h
 refine⟨⟨by simpa using h1,by simpa using h2,by simpa using h3,of_decide_eq_true h4,of_decide_eq_true h5,fun x hx=> ?_,fun y hy z=> ?_⟩,fun x hx=> ?_⟩
 ·have:=zAd h6 x hx
  rcases(Bool.or_eq_true _ _).mp this with z | z
  ·exact .inl (cJ z)
  ·exact .inr (cJ z)
 ·have:=zAd h7 y hy
  rw [z] at this
  simp at this
 ·have:=zAd h8 x hx
  simpa using this
theorem uJ {X:Cx} {G:Hp} {ds:List D} {vs:List V} {n:Nat} (hG:Same G X.H₀) (r:Reps X.K ad G ds vs):SS X ad G G X.H₀ (ds.map Slot.sh++List.replicate n .no) (vs.map some++List.replicate n none):=by
 have hl:=r.length
 have key: ∀ (i:Nat) (sl:Slot),(ds.map Slot.sh++List.replicate n .no)[i]? =some sl→(∃ d v,sl= .sh d∧(vs.map some++List.replicate n none)[i]? =some (some v)∧Rep X.K ad G d v)∨(sl= .no∧ ∃ ov,(vs.map some++List.replicate n none)[i]? =some ov):=fun i sl e=>by
  by_cases hi:i<ds.length
  ·rw [List.getElem?_append_left (by simpa using hi),List.getElem?_map] at e
   cases e1:ds[i]? with
   | none=>rw [e1] at e;cases e
   | some d=>
    rw [e1] at e
    cases e
    obtain⟨v,e2,q⟩:=r.get e1
    refine .inl ⟨d,v,rfl, ?_,q⟩
    rw [List.getElem?_append_left (by rw [List.length_map];omega),List.getElem?_map,e2]
    rfl
  ·rw [List.getElem?_append_right (by simpa using hi),List.getElem?_replicate] at e
   split at e
   ·cases e
    refine .inr ⟨rfl,none, ?_⟩
    rename_i hlt
    rw [List.getElem?_append_right (by rw [List.length_map];omega),List.getElem?_replicate,if_pos]
    rw [List.length_map] at hlt ⊢
    omega
   ·cases e
 refine⟨Step.refl hG,⟨by simp [hl],fun i sl e=> ?_⟩,fun i xs a e w h=> ?_,fun i j xs ys a e1 e2 w1 w2 h1 h2=> ?_⟩
 ·rcases key i sl e with ⟨d,v,rfl,e1,q⟩ | ⟨rfl,ov,e1⟩
  ·exact⟨some v,e1,v,rfl,q⟩
  ·exact⟨ov,e1,trivial⟩
 ·rcases key i _ e with ⟨d,v,z,_⟩ | ⟨z,_⟩<;>(subst z;exact(Bool.false_ne_true w).elim)
 ·rcases key i _ e1 with ⟨d,v,z,_⟩ | ⟨z,_⟩<;>(subst z;exact(Bool.false_ne_true w1).elim)
theorem q8 {x qual:Str} {st:Stmt} {f:Addr} {fd:FuncData} {fns:List (Nat×Fn)} {n:Nat} {F:Fn} {ps:List Str} (B:ExcK K ad) (TB:TabOk P w K mg base ad k tab) (FB:FnsOk P w K mg base ad k fns) (Fu:Fun K x qual st f fd) (hps:parsOf (defArgs st)=some ps)
  (hd:denFn tab fns st=some (n,F)):FnOk P w K mg base (CXe P w) (k+1) f fd ps (spOf K ad n F):=by
 obtain⟨oc,od,kV,doc,pm,an,cdv,ct,osl,rfl,lk,hcd⟩:=Fu.ex
 cases st with
 | FunctionDef nm as b dl re tp sc ts bi pos=>
  have hd':((parsOf as).bind fun Ps=>if scopeOk (namesOf sc) Ps sc then(denSs 100 false ⟨tab,fns,sc,namesOf sc,blds 50 b⟩ b).map fun g=>(Ps.length,SK.fnOf (namesOf sc).length g) else none)=some (n,F):=hd
  have hps':parsOf as=some ps:=hps
  rw [hps'] at hd'
  have hd2:(if scopeOk (namesOf sc) ps sc then(denSs 100 false ⟨tab,fns,sc,namesOf sc,blds 50 b⟩ b).map fun g=>(ps.length,SK.fnOf (namesOf sc).length g) else none)=some (n,F):=hd'
  by_cases hs:scopeOk (namesOf sc) ps sc=true
  ·rw [if_pos hs] at hd2
   obtain⟨g,hg,e⟩:=zMd hd2
   cases e
   obtain⟨S,nm⟩:=kW hs
   refine aDb lk hcd S (fun vs H Q E ⟨G,ds,_,r,hl,_⟩=>by rw [r.length,hl]) fun A outer s H vs Q E hr hz_=> ?_
   obtain⟨G,ds,hG,r,hl,hq⟩:=hz_
   let C:SK.Ctx:=⟨tab,fns,sc,namesOf sc,blds 50 b⟩
   have vis: ∀ x i,loc C x=some i→(namesOf sc)[i]? =some x∧Loc sc x∧x∈namesOf sc:=fun x i e=>by
    obtain⟨e1,e2⟩:=pI e
    refine⟨eP e1, ?_,pH e1⟩
    rcases e2 with e2 | e2 | e2
    ·exact .inl e2
    ·exact .inr e2
    ·exact absurd rfl (S.nofree _ (fQ e2))
   have O:StOk (cxOf (CXe P w) P w K mg base (namesOf sc) qual sc f cdv A outer s H E) ad C:=by
    refine⟨⟨rfl,S.nd,fun x i e=> ?_,fun x e=>e,fun x g e=> ?_,fun x i e=> ?_,rfl, ?_,hr.hd,B.exc,B.kin,B.kve,fun j m F' e=> ?_⟩,fun _=>rfl,rfl,fun x i e=>(vis x i e).2.1,⟨rfl,rfl,rfl⟩,B.exm,B.exi⟩
    ·obtain⟨a,b,c⟩:=vis x i e
     exact⟨a,b.elim .inl fun z=> .inr (.inl z),(nm x c).1,(nm x c).2⟩
    ·obtain⟨a,b⟩:=TB x g e
     refine⟨a, ?_⟩
     cases g with
     | fn j m F'=>
      obtain⟨r',f',h1,h2,h3,h4,h5⟩:=b
      exact⟨r',f',⟨h2,h3,h4⟩,hr.mono h1,h5⟩
     | exc c=>exact b
     | verr=>exact b
     | val d=>exact b
     | py p=>exact b
    ·obtain⟨e1,e2⟩:=fP e
     rcases e2 with e2 | e2
     ·exact .inl e2
     ·exact absurd rfl (S.nofree _ (fQ e2))
    ·exact Nat.lt_of_le_of_lt (Nat.add_le_add_left (by decide:62≤64) _) hr.units
    ·obtain⟨r',h1,h2,h3⟩:=FB j m F' e
     exact⟨r',⟨h2,h3⟩,hr.mono h1⟩
   have T:DefX (cxOf (CXe P w) P w K mg base (namesOf sc) qual sc f cdv A outer s H E) E:=⟨rfl,rfl,rfl,fun e s' h=>h⟩
   refine⟨_,(qY (ad:=ad) (E₀:=E) 100).2 _ C false b g O (fun _=>⟨T,PassesOwn.leaving (Q₁:=fun e s''=>CXe P w outer H s E e s'')⟩) hg, ?_⟩
   refine⟨G,G,ds.map Slot.sh++List.replicate ((namesOf sc).length - ds.length) .no,fun σ c H'=>E (.ref (ad.cls c)) none H', ?_,⟨fun σ=>aBj T,fun _ σ c H h=>h⟩, ?_⟩
   ·have:=uJ (X:=cxOf (CXe P w) P w K mg base (namesOf sc) qual sc f cdv A outer s H E) (ad:=ad) (n:=(namesOf sc).length - ds.length) hG r
    unfold L2.start
    rw [r.length]
    exact this
   ·have hq':RK K ad G H (match g (ds.map Slot.sh++List.replicate ((namesOf sc).length - ds.length) .no) with
     | .rt (.ok d)=> .ok d
     | .rt (.ow xs)=> .ow xs
     | .rt _=> .bad
     | .nx _=> .ok .non
     | .ex c _=> .ex c
     | _=> .bad) Q (fun c H'=>E (.ref (ad.cls c)) none H'):=hq
    cases e:g (ds.map Slot.sh++List.replicate ((namesOf sc).length - ds.length) .no) with
    | nx ρ=>rw [e] at hq';exact fun σ G' H' S'=>hq' .non G' H' S'.st (by unfold Rep;rfl)
    | bk ρ=>rw [e] at hq';exact hq'.elim
    | ct ρ=>rw [e] at hq';exact hq'.elim
    | ex c ρ=>rw [e] at hq';exact fun σ G' H' S'=>hq' G' H' S'.st
    | rt r'=>
     rw [e] at hq'
     cases r' with
     | ok d=>exact hq'
     | ow xs=>exact hq'
     | ex c=>exact hq'.elim
     | bad=>exact hq'.elim
  ·rw [if_neg hs] at hd2
   cases hd2
 | _=>cases hd
noncomputable def mP (K:Frag) (cs:List Addr) (C0:Addr):Bool:=
 decide (cs.length≤100)&&cs.head?==some C0&&cs.all fun C=>(clsIn K C).isSome&&mroIn K C (.type "object")==some true&&mroIn K C (.type "BaseException")==some true&&findIn K (.ref C) "__class__"==some (some (.builtin "object.__class__"))&&
  findIn K (.ref C) "__getattribute__"==some (some (.builtin "BaseException.__getattribute__"))&&findIn K (.ref C) "__getattr__"==some none&&kitOne K (.ref C) (.type "ValueError")==some true&&exmOne K (.ref C) (.ref C0)==some true&&
  excIn K C vErr "ValueError.__new__"
noncomputable def mQ (K:Frag) (cs:List Addr):Bool:=cs.zipIdx.all fun p=>cs.zipIdx.all fun q=>kitOne K (.ref p.1) (.ref q.1)==some (hit q.2 p.2)
noncomputable def adOf (cs:List Addr) (C0:Addr) (fs:List Addr):Ad:=⟨fun c=>cs.getD c C0,fun k=>fs.getD k 0,cs.length⟩
theorem yV {cs fs:List Addr} {C0:Addr} (h:mP K cs C0=true) (h2:mQ K cs=true):ExcK K (adOf cs C0 fs):=by
 unfold mP at h
 rw [Bool.and_eq_true,Bool.and_eq_true] at h
 obtain⟨⟨hl,hh⟩,ha⟩:=h
 have hl:cs.length≤100:=of_decide_eq_true hl
 have hh:cs.head?=some C0:=by simpa using hh
 have mem0:C0∈cs:=List.mem_of_mem_head? (by rw [hh];rfl)
 have get: ∀ c,(adOf cs C0 fs).cls c∈cs:=fun c=>by
  show cs.getD c C0∈cs
  rw [List.getD_eq_getElem?_getD]
  cases e:cs[c]? with
  | none=>exact mem0
  | some a=>exact List.mem_of_getElem? e
 have z0:cs[0]? =some C0:=by rw [←List.head?_eq_getElem?];exact hh
 have c0:(adOf cs C0 fs).cls 0=C0:=by
  show cs.getD 0 C0=C0
  rw [List.getD_eq_getElem?_getD,z0]
  rfl
 have all: ∀ C∈cs,ExcCls K C∧kitOne K (.ref C) (.type "ValueError")=some true∧exmOne K (.ref C) (.ref C0)=some true∧excIn K C vErr "ValueError.__new__"=true:=fun C hC=>by
  have:=zAd ha C hC
  simp only [Bool.and_eq_true,beq_iff_eq] at this
  obtain⟨⟨⟨⟨⟨⟨⟨⟨h1,h2⟩,h3⟩,h4⟩,h5⟩,h6⟩,h7⟩,h8⟩,h9⟩:=this
  exact⟨⟨h1,h2,h3,h4,h5,h6⟩,h7,h8,h9⟩
 have pair: ∀ (c e:Nat) (a b:Addr),cs[e]? =some a→cs[c]? =some b→kitOne K (.ref a) (.ref b)=some (hit c e):=fun c e a b ea eb=>by
  unfold mQ at h2
  have m1:(a,e)∈cs.zipIdx:=List.mem_zipIdx_iff_getElem?.mpr ea
  have m2:(b,c)∈cs.zipIdx:=List.mem_zipIdx_iff_getElem?.mpr eb
  have:=zAd (zAd h2 _ m1) _ m2
  simpa using this
 refine⟨fun c=>(all _ (get c)).1,fun c e hc=> ?_,fun e=>(all _ (get e)).2.1,fun c=> ?_,fun c=>(all _ (get c)).2.2.2⟩
 ·have hc':c<cs.length:=hc
  obtain⟨b,eb⟩: ∃ b,cs[c]? =some b:=⟨_,List.getElem?_eq_getElem hc'⟩
  have e1:(adOf cs C0 fs).cls c=b:=by
   show cs.getD c C0=b
   rw [List.getD_eq_getElem?_getD,eb]
   rfl
  rw [e1]
  cases ea:cs[e]? with
  | some a=>
   have e2:(adOf cs C0 fs).cls e=a:=by
    show cs.getD e C0=a
    rw [List.getD_eq_getElem?_getD,ea]
    rfl
   rw [e2]
   exact pair c e a b ea eb
  | none=>
   have e2:(adOf cs C0 fs).cls e=C0:=by
    show cs.getD e C0=C0
    rw [List.getD_eq_getElem?_getD,ea]
    rfl
   have hel:cs.length≤e:=List.getElem?_eq_none_iff.mp ea
   rw [e2,pair c 0 C0 b z0 eb]
   congr 1
   unfold hit
   have n1:(c==e)=false:=by simp;omega
   rw [n1]
   cases c<;>simp
 ·rw [c0]
  exact(all _ (get c)).2.2.1
end
section
variable {P:Program} {w:World} {K:Frag} {mg:Str→Option Value} {base h:Heap} {ad:Ad} {k:Nat} {tab:List (Str×SK.Gl)} {fns:List (Nat×Fn)}
theorem vZ {x qual:Str} {st:Stmt} {f:Addr} {fd:FuncData} {n j:Nat} {m:Fn→Fn} {ps:List Str} (B:ExcK K ad) (TB:TabOk P w K mg base ad k tab) (Fu:Fun K x qual st f fd) (hps:parsOf (defArgs st)=some ps) (hb:Binds K fd ps []) (hm:mg x=some (.ref f))
  (hdb:(x==("__debug__":Str))=false) (hj:f=ad.fnA j) (hd: ∀ F,denFn ((x, .fn j n F)::tab) [] st=some (n,m F)): ∀ i,FnOk P w K mg base (CXe P w) (k+i) f fd ps (spOf K ad n (recF m i))
 | 0=>⟨fun vs H Q E ⟨G,ds,_,_,_,z⟩=>z.elim,fun A outer s H args us vs Q E _ _ _ _ ⟨G,ds,_,_,_,z⟩=>z.elim⟩
 | i+1=>q8 (k:=k+i) B ((TB.mono (Nat.le_add_right k i)).cons (g:= .fn j n (recF m i)) hdb ⟨k+i,f,Nat.le_refl _,hm,Fu.kp,⟨fd,ps,vZ B TB Fu hps hb hm hdb hj hd i,hb⟩,hj⟩) FnsOk.nil Fu hps (hd (recF m i))
structure PQ (P:Program) (w:World) (K:Frag) (mg:Str→Option Value) (base h:Heap) (ad:Ad) (k:Nat) (tab:List (Str×SK.Gl)) (fns:List (Nat×Fn)):Prop where
 t:TabOk P w K mg base ad k tab
 u:FnsOk P w K mg base ad k fns
 X:K.In h
 G:h.Ns mainGlobals mg
 B:ExcK K ad
def Bnd (x:Str) (st:Stmt) (ps:List Str):Prop:= ∀ (kV doc pm:Value) (an:Option Addr) (cdv ct:Value) (us:List Value),us.length=ps.length→bindArgs (PySem.W.fnOf x x (defArgs st) (defBody st) (defScope st) .none kV doc pm an cdv ct) ⟨us,[]⟩=pure (ps.zip us)
theorem PQ.cons (T:PQ P w K mg base h ad k tab fns) {x:Str} {f:Addr} {fd:FuncData} {ps:List Str} {n r:Nat} {M:Fn} (hr:k≤r) (ok:FnOk P w K mg base (CXe P w) r f fd ps (spOf K ad n M)) (hb:Binds K fd ps []) (kp:keepIn K (.ref f)=true) (hm:mg x=some (.ref f)) (hj:f=ad.fnA fns.length) (hdb:(x==("__debug__":Str))=false):
  PQ P w K mg base h ad r ((x, .fn fns.length n M)::tab) (fns++[(n,M)]):=
 ⟨TabOk.cons (T.t.mono hr) hdb ⟨r,f,Nat.le_refl _,hm,kp,⟨_,_,ok,hb⟩,hj⟩,FnsOk.snoc T.u hr rfl hj (Nat.le_refl _) kp ok hb,T.X,T.G,T.B⟩
theorem PQ.addV (T:PQ P w K mg base h ad k tab fns) (x:Str) (st:Stmt) (f:Addr) (ps:List Str) (n:Nat) (M:Fn) {oc:Value} {od an:Option Addr} {osl:Array (Option Value)} {kV doc pm cdv ct:Value} (l:K.lookup f=some ⟨oc,od, .func (PySem.W.fnOf x x (defArgs st) (defBody st) (defScope st) .none kV doc pm an cdv ct),osl⟩)
  (fns':List (Nat×Fn)) (hf:fns'=fns∨fns'=[]) (d:denFn tab fns' st=some (n,M):=by kernel_rfl) (c:codeIn K cdv x=true:=by kernel_rfl) (kp:keepIn K (.ref f)=true:=by kernel_rfl) (hm:nsIn K mainGlobals x=some (some (.ref f)):=by kernel_rfl) (hj:f=ad.fnA fns.length:=by rfl)
  (hdb:(x==("__debug__":Str))=false:=by decide) (hps:parsOf (defArgs st)=some ps:=by rfl) (hb:Bnd x st ps:=by intro _ _ _ _ _ _ us hl;rcases us with _ | ⟨u0,_ | ⟨u1,_ | ⟨u2,_ | ⟨u3,_ | ⟨u4,us⟩⟩⟩⟩⟩<;>first | rfl | (simp at hl)):
  PQ P w K mg base h ad (k+1) ((x, .fn fns.length n M)::tab) (fns++[(n,M)]):=by
 have F:=oK (st:=st) l c kp
 refine T.cons (Nat.le_succ _) (q8 (ps:=ps) T.B T.t ?_ F hps d) (F.binds hb) kp (PySem.W.mg_of T.X T.G hm) hj hdb
 rcases hf with rfl | rfl
 ·exact T.u
 ·exact FnsOk.nil
theorem PQ.add (T:PQ P w K mg base h ad k tab fns) (x:Str) (st:Stmt) (f:Addr) (ps:List Str) (n:Nat) (M:Fn) {oc:Value} {od an:Option Addr} {osl:Array (Option Value)} {kV doc pm cdv ct:Value} (l:K.lookup f=some ⟨oc,od, .func (PySem.W.fnOf x x (defArgs st) (defBody st) (defScope st) .none kV doc pm an cdv ct),osl⟩)
  (d:denFn tab [] st=some (n,M):=by kernel_rfl) (c:codeIn K cdv x=true:=by kernel_rfl) (kp:keepIn K (.ref f)=true:=by kernel_rfl) (hm:nsIn K mainGlobals x=some (some (.ref f)):=by kernel_rfl) (hj:f=ad.fnA fns.length:=by rfl)
  (hdb:(x==("__debug__":Str))=false:=by decide) (hps:parsOf (defArgs st)=some ps:=by rfl) (hb:Bnd x st ps:=by intro _ _ _ _ _ _ us hl;rcases us with _ | ⟨u0,_ | ⟨u1,_ | ⟨u2,_ | ⟨u3,_ | ⟨u4,us⟩⟩⟩⟩⟩<;>first | rfl | (simp at hl)):
  PQ P w K mg base h ad (k+1) ((x, .fn fns.length n M)::tab) (fns++[(n,M)]):=T.addV x st f ps n M l [] (.inr rfl) d c kp hm hj hdb hps hb
theorem PQ.addR (T:PQ P w K mg base h ad k tab fns) (x:Str) (st:Stmt) (f:Addr) (ps:List Str) (n:Nat) (m:Fn→Fn) (i:Nat) {oc:Value} {od an:Option Addr} {osl:Array (Option Value)} {kV doc pm cdv ct:Value} (l:K.lookup f=some ⟨oc,od, .func (PySem.W.fnOf x x (defArgs st) (defBody st) (defScope st) .none kV doc pm an cdv ct),osl⟩)
  (d: ∀ F,denFn ((x, .fn fns.length n F)::tab) [] st=some (n,m F):=by intro F;kernel_rfl) (c:codeIn K cdv x=true:=by kernel_rfl) (kp:keepIn K (.ref f)=true:=by kernel_rfl) (hm:nsIn K mainGlobals x=some (some (.ref f)):=by kernel_rfl) (hj:f=ad.fnA fns.length:=by rfl)
  (hdb:(x==("__debug__":Str))=false:=by decide) (hps:parsOf (defArgs st)=some ps:=by rfl) (hb:Bnd x st ps:=by intro _ _ _ _ _ _ us hl;rcases us with _ | ⟨u0,_ | ⟨u1,_ | ⟨u2,_ | ⟨u3,_ | ⟨u4,us⟩⟩⟩⟩⟩<;>first | rfl | (simp at hl)):
  PQ P w K mg base h ad (k+i) ((x, .fn fns.length n (recF m i))::tab) (fns++[(n,recF m i)]):=
 have F:=oK (st:=st) l c kp
 T.cons (Nat.le_add_right _ _) (vZ T.B T.t F hps (F.binds hb) (PySem.W.mg_of T.X T.G hm) hdb hj d i) (F.binds hb) kp (PySem.W.mg_of T.X T.G hm) hj hdb
theorem PQ.py (T:PQ P w K mg base h ad 0 tab []) (p:Py) (hm:nsIn K mainGlobals (pyName p)=some none:=by kernel_rfl) (hdb:(pyName p==("__debug__":Str))=false:=by decide):PQ P w K mg base h ad 0 ((pyName p, .py p)::tab) []:=⟨TabOk.cons T.t hdb ⟨rfl,PySem.W.mg_none_of T.X T.G hm⟩,T.u,T.X,T.G,T.B⟩
theorem PQ.verr (T:PQ P w K mg base h ad 0 tab []) (hm:nsIn K mainGlobals "ValueError"=some none:=by kernel_rfl):PQ P w K mg base h ad 0 (("ValueError", .verr)::tab) []:=⟨TabOk.cons T.t (by decide) ⟨rfl,PySem.W.mg_none_of T.X T.G hm⟩,T.u,T.X,T.G,T.B⟩
theorem PQ.exc (T:PQ P w K mg base h ad 0 tab []) (x:Str) (c:Nat) (hm:nsIn K mainGlobals x=some (some (.ref (ad.cls c))):=by kernel_rfl) (hc:c<ad.nb:=by decide) (hdb:(x==("__debug__":Str))=false:=by decide):PQ P w K mg base h ad 0 ((x, .exc c)::tab) []:=⟨TabOk.cons T.t hdb ⟨PySem.W.mg_of T.X T.G hm,hc⟩,T.u,T.X,T.G,T.B⟩
theorem PQ.int (T:PQ P w K mg base h ad 0 tab []) (x:Str) (i:Int) (t:Tok) (hm:nsIn K mainGlobals x=some (some (.int i t)):=by kernel_rfl) (hdb:(x==("__debug__":Str))=false:=by decide):PQ P w K mg base h ad 0 ((x, .val (.int i))::tab) []:=⟨TabOk.cons T.t hdb ⟨.int i t, .int i,PySem.W.mg_of T.X T.G hm,⟨_,rfl⟩,fun G=>by unfold Rep;rfl⟩,T.u,T.X,T.G,T.B⟩
theorem PQ.val (T:PQ P w K mg base h ad 0 tab []) (x:Str) {d:D} {u:Value} {v:V} (hv:RelV v u) (hr: ∀ G,Rep K ad G d v) (hm:nsIn K mainGlobals x=some (some u):=by kernel_rfl) (hdb:(x==("__debug__":Str))=false:=by decide):PQ P w K mg base h ad 0 ((x, .val d)::tab) []:=⟨TabOk.cons T.t hdb ⟨u,v,PySem.W.mg_of T.X T.G hm,hv,hr⟩,T.u,T.X,T.G,T.B⟩
theorem PQ.nil (X:K.In h) (G:h.Ns mainGlobals mg) (B:ExcK K ad):PQ P w K mg base h ad 0 [] []:=⟨TabOk.nil,FnsOk.nil,X,G,B⟩
end
noncomputable def spLaw (K:Frag):Sp:=fun vs H Q _=> ∃ (a:Addr) (ns:List Int),vs=[.ref a]∧SqL K H a (ns.map V.int)∧ns.length≤63∧ ∀ H',Q (.bl true) H'
theorem yW {P:Program} {w:World} {K:Frag} {mg:Str→Option Value} {base:Heap} {ad:Ad} {k:Nat} {f:Addr} {fd:FuncData} {ps:List Str} {M:Fn} (g:FnOk P w K mg base (CXe P w) k f fd ps (spOf K ad 1 M)) (hm: ∀ ns:List Int,M [.lst (ns.map D.int)]= .ok (.bl true)):FnOk P w K mg base (CXe P w) k f fd ps (spLaw K):=by
 refine g.imp fun vs H Q E ⟨a,ns,e,hS,hl,hQ⟩=>⟨H,[.lst (ns.map D.int)],Same.refl _, ?_,rfl, ?_⟩
 ·subst e
  exact Reps.cons (by unfold Rep;exact⟨a,_,rfl,hS,Reps.map_int⟩) Reps.nil
 ·rw [hm ns]
  intro v G' H' _ r
  unfold Rep at r;subst r
  exact hQ H'
theorem walk {l:PySem.W.OpenLaw} {q:Program} {loose:List Str} {XP:(Str→Option Value)→Heap→Prop} {YP:World→Heap→Prop} {d:DefRec} {K:Params→PySem.W.Frag} (r:Nat) (hn:l.most=some 63) (hdf:d.params.defaults=[]) (hr:Room r callerA)
  (hY: ∀ (w:World) (h:Heap),YP w h→(K w.params).In h)
  (F: ∀ (w:World) (mg:Str→Option Value) (fa:Addr) (h:Heap),(K w.params).In h→h.Ns mainGlobals mg→mg d.name=some (.ref fa)→
   ∃ fd:FuncData,(∀ (s:Shared) (u:Value),BindsTo s fd ⟨[u],[]⟩ [("_law_script",u)])∧ ∀ base:Heap,(K w.params).In base→base.Ns mainGlobals mg→FnOk l.prog w (K w.params) mg base (CXe l.prog w) r fa fd ["_law_script"] (spLaw (K w.params))):
  PySem.W.WalkO q loose XP YP l.row.toRowW d [] (fun f vs=>PySem.call f vs):=
 L2.walk_of (n:=63) (k:=r) (x:="_law_script") (CX:=fun w=>CXe l.prog w) (sp:=fun w=>spLaw (K w.params)) hn (by decide) hdf hr hY F (fun _ _ a ns hl _ hS=>⟨a,ns,rfl,hS,hl,fun _=>rfl⟩)
  fun _ _ _ _ _ h=>by obtain⟨_,_,_,_,_,_,_,_,_,_,_,_,_,_,z⟩:=h;exact z
theorem aB {a b:FS} {ρ ρ':Rho} (h:a ρ= .nx ρ'):sSeq a b ρ=b ρ':=by simp [sSeq,h]
theorem dY {a b:FS} {ρ:Rho} {r:R} (h:a ρ= .rt r):sSeq a b ρ= .rt r:=by simp [sSeq,h]
theorem a9 {i:Nat} {e:F} {ρ:Rho} {d:D} (h:e ρ= .ok d):sSet i e ρ= .nx (ρ.set i (.sh d)):=by simp [sSet,h,outR]
theorem hV {i:Nat} {e:F} {ρ:Rho} {d:List D} (h:e ρ= .ow d):sSet i e ρ= .nx (ρ.set i (.sh (.lst d))):=by simp [sSet,h,outR]
theorem hW {i:Nat} {e:F} {ρ:Rho} {d:List D} (h:e ρ= .ow d):sOwn i e ρ= .nx (ρ.set i (.ow d)):=by simp [sOwn,h]
theorem bJ {e:F} {ρ:Rho} {d:D} (h:e ρ= .ok d):sDrop e ρ= .nx ρ:=by simp [sDrop,h,outR]
theorem aJ {e:F} {ρ:Rho} {d:D} (h:e ρ= .ok d):sRet e ρ= .rt (.ok d):=by simp [sRet,h]
theorem q9 {e:F} {ρ:Rho} {d:List D} (h:e ρ= .ow d):sRet e ρ= .rt (.ow d):=by simp [sRet,h]
theorem eY {c:F} {a b:FS} {ρ:Rho} (h:c ρ= .ok (.bl true)):sIf c a b ρ=a ρ:=by simp [sIf,h]
theorem bA {c:F} {a b:FS} {ρ:Rho} (h:c ρ= .ok (.bl false)):sIf c a b ρ=b ρ:=by simp [sIf,h]
theorem aG {n:Nat} {b:FS} {ds:List D} {d:D} (h:b (ds.map Slot.sh++List.replicate (n - ds.length) .no)= .rt (.ok d)):fnOf n b ds= .ok d:=by simp [fnOf,h]
theorem rB {n:Nat} {b:FS} {ds:List D} {d:List D} (h:b (ds.map Slot.sh++List.replicate (n - ds.length) .no)= .rt (.ow d)):fnOf n b ds= .ow d:=by simp [fnOf,h]
theorem hX {n:Nat} {b:FS} {ds:List D} {ρ:Rho} (h:b (ds.map Slot.sh++List.replicate (n - ds.length) .no)= .nx ρ):fnOf n b ds= .ok .non:=by simp [fnOf,h]
theorem cE {xs:List Int}:dInts (xs.map D.int)=some xs:=by
 induction xs with
 | nil=>rfl
 | cons x r ih=>simp [dInts,ih]
theorem nX {xs:List Bool}:dBools (xs.map D.bl)=some xs:=by
 induction xs with
 | nil=>rfl
 | cons x r ih=>simp [dBools,ih]
theorem aI {op:Operator} {a b:F} {ρ:Rho} {x y:D} (h:a ρ= .ok x) (k:b ρ= .ok y):rBin op a b ρ=dBin op x y:=by simp [rBin,h,k,R.bind]
theorem aV {op:CmpOp} {a b:F} {ρ:Rho} {x y:D} (h:a ρ= .ok x) (k:b ρ= .ok y):rCmp op a b ρ=dCmp op x y:=by simp [rCmp,h,k,R.bind]
theorem mR {op:CmpOp} {a b:F} {ρ:Rho} {x y:List D} (h:a ρ= .ow x) (k:b ρ= .ow y):rCmp op a b ρ=dCmp op (.lst x) (.lst y):=by simp [rCmp,h,k,R.bind]
theorem d9 {a b:F} {ρ:Rho} {x y:D} (h:a ρ= .ok x) (k:b ρ= .ok y):rIx a b ρ=dIx x y:=by simp [rIx,h,k,R.bind]
theorem v5 {a b:F} {ρ:Rho} {x:List D} {y:D} (h:a ρ= .ow x) (k:b ρ= .ok y):rIx a b ρ=dIx (.lst x) y:=by simp [rIx,h,k,R.bind]
theorem hZ {a:F} {ρ:Rho} {b:Bool} (h:a ρ= .ok (.bl b)):rNot a ρ= .ok (.bl (!b)):=by simp [rNot,h,R.bind]
theorem dH {a b:F} {ρ:Rho} (h:a ρ= .ok (.bl true)):rAnd a b ρ=b ρ:=by simp [rAnd,h,R.bind]
theorem eZ {a b:F} {ρ:Rho} (h:a ρ= .ok (.bl false)):rAnd a b ρ= .ok (.bl false):=by simp [rAnd,h,R.bind]
theorem aB9 {a b:F} {ρ:Rho} (h:a ρ= .ok (.bl true)):rOr a b ρ= .ok (.bl true):=by simp [rOr,h,R.bind]
theorem cS {a b:F} {ρ:Rho} (h:a ρ= .ok (.bl false)):rOr a b ρ=b ρ:=by simp [rOr,h,R.bind]
theorem rCall1 {f:Fn} {a:F} {ρ:Rho} {x:D} (h:a ρ= .ok x):rCall f [a] ρ=f [x]:=by simp [rCall,rAll,args,h,RA.cons,RA.then]
theorem a8 {f:Fn} {a:F} {ρ:Rho} {x:List D} (h:a ρ= .ow x):rCall f [a] ρ=f [.lst x]:=by simp [rCall,rAll,args,h,RA.cons,RA.then]
theorem rCall2 {f:Fn} {a b:F} {ρ:Rho} {x y:D} (h:a ρ= .ok x) (k:b ρ= .ok y):rCall f [a,b] ρ=f [x,y]:=by simp [rCall,rAll,args,h,k,RA.cons,RA.then]
theorem rCall3 {f:Fn} {a b c:F} {ρ:Rho} {x y z:D} (h:a ρ= .ok x) (k:b ρ= .ok y) (l:c ρ= .ok z):rCall f [a,b,c] ρ=f [x,y,z]:=by simp [rCall,rAll,args,h,k,l,RA.cons,RA.then]
theorem rTup2 {a b:F} {ρ:Rho} {x y:D} (h:a ρ= .ok x) (k:b ρ= .ok y):rTup [a,b] ρ= .ok (.tup [x,y]):=by simp [rTup,rAll,args,h,k,RA.cons,RA.then]
theorem rC {a b c:F} {ρ:Rho} {i j k:Int} (h:a ρ= .ok (.int i)) (h':b ρ= .ok (.int j)) (h'':c ρ= .ok (.int k)):rChain .LtE .Lt a b c ρ= .ok (.bl (decide (i≤j)&&decide (j<k))):=by
 by_cases e:i≤j<;>simp [rChain,h,h',h'',R.bind,dCmp,e]
theorem aCa {p:D→Bool} {ds:List D}:dAll [.lst (ds.map fun d=> .bl (p d))]= .ok (.bl (ds.all p)):=by
 have e:(ds.map fun d=>D.bl (p d))=(ds.map p).map D.bl:=by simp
 have k:(items (D.lst (ds.map fun d=>D.bl (p d)))).bind dBools=some (ds.map p):=by
  show dBools _=_
  rw [e];exact nX
 simp only [dAll,k];simp
theorem fZ {f:D→Option (Option D)} {g:D→D}: ∀ {ds:List D},(∀ d∈ds,f d=some (some (g d)))→compGo f ds=some (ds.map g)
 | [],_=>rfl
 | d::r,h=>by simp [compGo,h d (.head _),fZ (ds:=r) fun x m=>h x (.tail _ m)]
theorem f8 {f:D→Option (Option D)} {P:D→Prop}: ∀ {ds:List D},(∀ d∈ds, ∃ x,f d=some (some x)∧P x)→ ∃ xs,compGo f ds=some xs∧xs.length=ds.length∧ ∀ x∈xs,P x
 | [],_=>⟨[],rfl,rfl,nofun⟩
 | d::r,h=>by
  obtain⟨x,e,p⟩:=h d (.head _)
  obtain⟨xs,e',l,q⟩:=f8 (ds:=r) fun x m=>h x (.tail _ m)
  refine⟨x::xs,by simp [compGo,e,e'],by simp [l], ?_⟩
  intro y m;cases m with
  | head=>exact p
  | tail _ m=>exact q y m
theorem rD {cs:List Nat} {it e:F} {ρ:Rho} {ds:List D} {g:D→D} (hi:it ρ= .ok (.lst ds)∨it ρ= .ok (.tup ds)∨it ρ= .ow ds) (h: ∀ d∈ds,e (.sh d::caps cs ρ)= .ok (g d)):rComp 0 cs it none e ρ= .ow (ds.map g):=by
 have k:compGo (compF 0 (caps cs ρ) none e) ds=some (ds.map g):=fZ fun d m=>by simp [compF,tgt,h d m]
 rcases hi with hi | hi | hi<;>simp [rComp,hi,R.bind,items,k]
theorem bR {n:Nat} {cs:List Nat} {it e:F} {ρ:Rho} {ds:List D} {P:D→Prop} (hi:it ρ= .ok (.lst ds)∨it ρ= .ok (.tup ds)∨it ρ= .ow ds) (h: ∀ d∈ds, ∃ ts x,tgt n d=some ts∧e (ts++caps cs ρ)= .ok x∧P x):
  ∃ xs,rComp n cs it none e ρ= .ow xs∧xs.length=ds.length∧ ∀ x∈xs,P x:=by
 obtain⟨xs,k,l,q⟩:=f8 (f:=compF n (caps cs ρ) none e) (P:=P) (ds:=ds) fun d m=>by
  obtain⟨ts,x,a,b,c⟩:=h d m
  exact⟨x,by simp [compF,a,b],c⟩
 refine⟨xs, ?_,l,q⟩
 rcases hi with hi | hi | hi<;>simp [rComp,hi,R.bind,items,k]
theorem aQ {a:F} {ρ:Rho} {n:Nat} (h:a ρ= .ok (.int n)) (l:n≤100000):iRange a ρ= .ok (.lst (rngD n)):=by
 have:(-100000:Int)≤(n:Int)∧(n:Int)≤100000:=by omega
 simp [iRange,h,R.bind,pInt,this]
theorem dI {n:Nat} {d:D} (h:d∈rngD n): ∃ k:Nat,k<n∧d= .int k:=by
 simp only [rngD,List.mem_map,List.mem_range] at h
 obtain⟨k,a,b⟩:=h;exact⟨k,a,b.symm⟩
theorem bH {n:Nat}:(rngD n).length=n:=by simp [rngD]
theorem dZ {xs:List D} {n:Nat} {x:D} (h:xs[n]? =some x):dIx (.lst xs) (.int n)= .ok x:=by
 obtain⟨l,e⟩:=List.getElem?_eq_some_iff.1 h
 simp [dIx,items,ixD,l,e]
theorem yX {xs:List D} {n:Nat} {x:D} (h:xs[n]? =some x):dIx (.tup xs) (.int n)= .ok x:=by
 obtain⟨l,e⟩:=List.getElem?_eq_some_iff.1 h
 simp [dIx,items,ixD,l,e]
theorem v6 {i j:Int} (h:sml j=true):dBin .Mult (.int i) (.int j)= .ok (.int (i * j)):=by simp [dBin,dArith,h]
theorem iA {i j:Int} (h:0<j):dBin .Mod (.int i) (.int j)= .ok (.int (i % j)):=by simp [dBin,dArith,h]
theorem rE {i j:Int} (h:0<j) (l:j<1073741824):dBin .FloorDiv (.int i) (.int j)= .ok (.int (i / j)):=by simp [dBin,dArith,h,l]
theorem aCb {i:Int} (a: -18446744073709551616<i) (b:i<18446744073709551616):sml i=true:=by simp [sml,a,b]
theorem yY {is:List Nat} {o:Bool} {it:F} {b:FS} {ρ:Rho} {ds:List D} (hi:it ρ= .ok (.lst ds)∨it ρ= .ok (.tup ds)∨it ρ= .ow ds):sFor is o it b ρ=forGo (tgtS is o) b ds ρ:=by
 rcases hi with hi | hi | hi<;>simp [sFor,hi,outR,items]
theorem cO {xs:List D}:plains xs=true↔ ∀ x∈xs,plain x=true:=by
 induction xs with
 | nil=>simp [plains]
 | cons x r ih=>simp [plains,ih]
theorem e9 {x y:D} (a:plain x=true) (b:plain y=true) (c:dep y≤60):eqOk x y=true:=by
 have:min (dep x) (dep y)≤60:=Nat.le_trans (Nat.min_le_right ..) c
 simp [eqOk,a,b,this]
theorem fA {x y:D} (h:eqOk x y=true):dCmp .Eq x y= .ok (.bl (deq x y)):=by simp [dCmp,h]
theorem kX {x y:D} (h:eqOk x y=true):dCmp .NotEq x y= .ok (.bl (!deq x y)):=by simp [dCmp,h]
mutual
theorem iB: ∀ d:D,plain d=true→deq d d=true
 | .non,_=>rfl
 | .bl b,_=>by simp [deq]
 | .int i,_=>by simp [deq]
 | .str x,_=>by simp [deq]
 | .tup xs,h=>by simp only [deq];exact fB xs h
 | .lst xs,h=>by simp only [deq];exact fB xs h
 | .exc _,h=>by simp [plain] at h
 | .fn _,h=>by simp [plain] at h
theorem fB: ∀ xs:List D,plains xs=true→deqs xs xs=true
 | [],_=>rfl
 | x::r,h=>by
  simp only [plains,Bool.and_eq_true] at h
  simp [deqs,iB x h.1,fB r h.2]
end
theorem dJ {xs:List D} (h: ∀ x∈xs,dep x=0):deps xs=0:=by
 induction xs with
 | nil=>rfl
 | cons x r ih=>simp [deps,h x (.head _),ih fun y m=>h y (.tail _ m)]
end SK
namespace SK.k79
open SK
noncomputable def m_is_whole:Fn:=fnOf 1 (sRet (rAnd (rIs (aAq) (rVar 0)) (rNot (rIs (wT) (rVar 0)))))
noncomputable def m_is_whole_below:Fn:=fnOf 2 (sRet (rAnd (rCall m_is_whole [rVar 0]) (rChain .LtE .Lt (rK (.int 0)) (rVar 0) (rVar 1))))
noncomputable def m_are_whole_below:Fn:=fnOf 2 (sRet (rCall dAll [rComp 0 [1] (rLook 0) none (rCall m_is_whole_below [rVar 0,rVar 1])]))
noncomputable def m_is_many:Fn:=fnOf 1 (sRet (rCall m_is_whole_below [rVar 0,rBin .Add (rK (.int 4)) (rK (.int 1))]))
noncomputable def m_is_many_listed:Fn:=fnOf 1 (sRet (rCall m_is_whole_below [rVar 0,rBin .Add (rK (.int 3)) (rK (.int 1))]))
noncomputable def m_is_row:Fn:=fnOf 3 (sRet (rAnd (rIs (bI) (rVar 0)) (rAnd (rCmp .Eq (rCall dLen [rLook 0]) (rVar 1)) (rCall m_are_whole_below [rVar 0,rVar 2]))))
noncomputable def m_all_rows:Fn:=fnOf 5 (sSeq (sSet 1 (rLst [rTup []]))
 (sSeq (sFor [2] true (iRange (rVar 0))
 (sSeq (sOwn 3 (rLst []))
  (sSeq (sFor [4] true (rVar 1)
  (sSeq (sApp 3 (rBin .Add (rVar 4) (rTup [rK (.int 0)])))
   (sApp 3 (rBin .Add (rVar 4) (rTup [rK (.int 1)])))))
  (sFrz [3] (sSet 1 (rVar 3))))))
 (sRet (rVar 1))))
noncomputable def m_how_many_settings:Fn:=fnOf 1 (sRet (rBin .LShift (rK (.int 1)) (rVar 0)))
noncomputable def m_setting_at:Fn:=fnOf 2 (sRet (rCall dTuple [rComp 0 [1] (iRange (rVar 0)) none (rBin .BitAnd (rBin .RShift (rVar 1) (rVar 0)) (rK (.int 1)))]))
noncomputable def m_number_of:Fn:=fnOf 1 (sRet (rCall dSum [rComp 2 [] (iEnum (rVar 0)) none (rBin .LShift (rVar 1) (rVar 0))]))
noncomputable def m_all_settings:Fn:=fnOf 1 (sRet (rComp 0 [0] (iRange (rCall m_how_many_settings [rVar 0])) none (rCall m_setting_at [rVar 1,rVar 0])))
noncomputable def m_how_many_ones:Fn:=fnOf 1 (sRet (rCall dSum [rCall m_setting_at [rK (.int 4),rVar 0]]))
noncomputable def m_is_switch:Fn:=fnOf 1 (sSeq (sIf (rOr (rNot (rIs (bI) (rVar 0))) (rOr (rCmp .NotEq (rCall dLen [rLook 0]) (rK (.int 2))) (rNot (rCall m_is_many [rIx (rLook 0) (rK (.int 0))]))))
 (sRet (rK (.bl false)))
 (sPass))
 (sRet (rCall m_is_row [rIx (rLook 0) (rK (.int 1)),rCall m_how_many_settings [rIx (rLook 0) (rK (.int 0))],rK (.int 2)])))
noncomputable def m_check_switch:Fn:=fnOf 1 (sIf (rNot (rCall m_is_switch [rVar 0]))
 (sRaise 1)
 (sPass))
noncomputable def m_check_alike:Fn:=fnOf 2 (sSeq (sDrop (rCall m_check_switch [rVar 0]))
 (sSeq (sDrop (rCall m_check_switch [rVar 1]))
 (sIf (rCmp .NotEq (rIx (rLook 0) (rK (.int 0))) (rIx (rLook 1) (rK (.int 0))))
 (sRaise 4)
 (sPass))))
noncomputable def m_check_many:Fn:=fnOf 1 (sIf (rNot (rCall m_is_many [rVar 0]))
 (sRaise 2)
 (sPass))
noncomputable def m_check_name:Fn:=fnOf 2 (sIf (rNot (rCall m_is_whole_below [rVar 1,rVar 0]))
 (sRaise 2)
 (sPass))
noncomputable def m_ones:Fn:=fnOf 1 (sSeq (sDrop (rCall m_check_switch [rVar 0]))
 (sRet (rComp 2 [] (iEnum (rIx (rLook 0) (rK (.int 1)))) (some (rCmp .Eq (rVar 1) (rK (.int 1)))) (rVar 0))))
noncomputable def m_odd_within:Fn:=fnOf 5 (sSeq (sOwn 2 (rLst []))
 (sSeq (sFor [3] true (iRange (rCall m_how_many_settings [rVar 0]))
 (sSeq (sSet 4 (rComp 0 [3] (rLook 1) (some (rCmp .Eq (rBin .BitAnd (rVar 0) (rVar 1)) (rVar 0))) (rVar 0)))
  (sIf (rCmp .Eq (rBin .Mod (rCall dLen [rLook 4]) (rK (.int 2))) (rK (.int 1)))
  (sApp 2 (rVar 3))
  (sPass))))
 (sRet (rGive 2))))
noncomputable def m_products:Fn:=fnOf 2 (sSeq (sSet 1 (rCall m_ones [rVar 0]))
 (sRet (rCall m_odd_within [rIx (rLook 0) (rK (.int 0)),rVar 1])))
noncomputable def m_degree:Fn:=fnOf 1 (sRet (rCall (dMaxD 0) [rComp 0 [] (rCall m_products [rVar 0]) none (rCall m_how_many_ones [rVar 0])]))
noncomputable def m_is_order:Fn:=fnOf 2 (sRet (rAnd (rCall m_is_row [rVar 1,rVar 0,rVar 0]) (rCmp .Eq (rCall dSorted [rLook 1]) (rCall dList [iRange (rVar 0)]))))
noncomputable def m_is_move:Fn:=fnOf 2 (sSeq (sIf (rOr (rNot (rCall m_is_many [rVar 0])) (rOr (rNot (rIs (bI) (rVar 1))) (rCmp .NotEq (rCall dLen [rLook 1]) (rK (.int 3)))))
 (sRet (rK (.bl false)))
 (sPass))
 (sRet (rAnd (rCall m_is_order [rVar 0,rIx (rLook 1) (rK (.int 0))]) (rAnd (rCall m_is_row [rIx (rLook 1) (rK (.int 1)),rVar 0,rK (.int 2)]) (rCall m_is_whole_below [rIx (rLook 1) (rK (.int 2)),rK (.int 2)])))))
noncomputable def m_check_move:Fn:=fnOf 2 (sIf (rNot (rCall m_is_move [rVar 0,rVar 1]))
 (sRaise 3)
 (sPass))
noncomputable def m_names_of:Fn:=fnOf 1 (sSeq (sIf (rOr (rNot (rIs (bI) (rVar 0))) (rOr (rCmp .NotEq (rCall dLen [rLook 0]) (rK (.int 3))) (rNot (rIs (bI) (rIx (rLook 0) (rK (.int 0)))))))
 (sRaise 3)
 (sPass))
 (sSeq (sDrop (rCall m_check_move [rCall dLen [rIx (rLook 0) (rK (.int 0))],rVar 0]))
 (sRet (rCall dLen [rIx (rLook 0) (rK (.int 0))]))))
noncomputable def m_led:Fn:=fnOf 2 (sRet (rCall dTuple [rComp 2 [0] (iZip (rIx (rLook 1) (rK (.int 0))) (rIx (rLook 1) (rK (.int 1)))) none (rBin .BitXor (rIx (rLook 2) (rVar 0)) (rVar 1))]))
noncomputable def m_moved:Fn:=fnOf 4 (sSeq (sDrop (rCall m_check_switch [rVar 0]))
 (sSeq (sSet 2 (rIx (rLook 0) (rK (.int 0))))
 (sSeq (sDrop (rCall m_check_move [rVar 2,rVar 1]))
 (sSeq (sSet 3 (rComp 0 [1] (rCall m_all_settings [rVar 2]) none (rCall m_number_of [rCall m_led [rVar 0,rVar 1]])))
 (sRet (rTup [rVar 2,rCall dTuple [rComp 0 [1,0] (rLook 3) none (rBin .BitXor (rIx (rIx (rLook 2) (rK (.int 1))) (rVar 0)) (rIx (rLook 1) (rK (.int 2))))]]))))))
noncomputable def m_still:Fn:=fnOf 1 (sSeq (sDrop (rCall m_check_many [rVar 0]))
 (sRet (rTup [rCall dTuple [iRange (rVar 0)],rBin .Mult (rTup [rK (.int 0)]) (rVar 0),rK (.int 0)])))
noncomputable def m_behind:Fn:=fnOf 5 (sSeq (sSet 2 (rCall m_names_of [rVar 0]))
 (sSeq (sDrop (rCall m_check_move [rVar 2,rVar 1]))
 (sSeq (sSet 3 (rComp 0 [1] (rIx (rLook 0) (rK (.int 0))) none (rIx (rIx (rLook 1) (rK (.int 0))) (rVar 0))))
 (sSeq (sSet 4 (rComp 2 [1] (iZip (rIx (rLook 0) (rK (.int 0))) (rIx (rLook 0) (rK (.int 1)))) none (rBin .BitXor (rIx (rIx (rLook 2) (rK (.int 1))) (rVar 0)) (rVar 1))))
 (sRet (rTup [rCall dTuple [rLook 3],rCall dTuple [rLook 4],rBin .BitXor (rIx (rLook 0) (rK (.int 2))) (rIx (rLook 1) (rK (.int 2)))]))))))
noncomputable def m_back:Fn:=fnOf 3 (sSeq (sSet 1 (rCall m_names_of [rVar 0]))
 (sSeq (sSet 2 (rComp 0 [0] (iRange (rVar 1)) none (rIdx (rIx (rLook 1) (rK (.int 0))) (rVar 0))))
 (sRet (rTup [rCall dTuple [rLook 2],rCall dTuple [rComp 0 [0] (rLook 2) none (rIx (rIx (rLook 1) (rK (.int 1))) (rVar 0))],rIx (rLook 0) (rK (.int 2))]))))
noncomputable def m_all_orders:Fn:=fnOf 5 (sSeq (sSet 1 (rLst [rTup []]))
 (sSeq (sFor [2] true (iRange (rVar 0))
 (sSeq (sOwn 3 (rLst []))
  (sSeq (sFor [4] true (rVar 1)
  (sExt 3 (rComp 0 [4] (iRange (rVar 0)) (some (rCmp .NotIn (rVar 0) (rVar 1))) (rBin .Add (rVar 1) (rTup [rVar 0])))))
  (sFrz [3] (sSet 1 (rVar 3))))))
 (sRet (rVar 1))))
noncomputable def m_all_moves:Fn:=fnOf 4 (sSeq (sIf (rNot (rCall m_is_many_listed [rVar 0]))
 (sRaise 2)
 (sPass))
 (sSeq (sOwn 1 (rLst []))
 (sSeq (sFor [2] true (rCall m_all_orders [rVar 0])
 (sFor [3] true (rCall m_all_rows [rVar 0])
  (sSeq (sApp 1 (rTup [rVar 2,rVar 3,rK (.int 0)]))
   (sApp 1 (rTup [rVar 2,rVar 3,rK (.int 1)])))))
 (sRet (rGive 1)))))
noncomputable def m_how_much:Fn:=fnOf 3 (sSeq (sDrop (rCall m_check_switch [rVar 0]))
 (sSeq (sDrop (rCall m_check_name [rIx (rLook 0) (rK (.int 0)),rVar 1]))
 (sSeq (sSet 2 (rIx (rLook 0) (rK (.int 1))))
 (sRet (rCall dSum [rComp 2 [1,2] (iEnum (rVar 2)) none (rBin .BitXor (rVar 1) (rIx (rLook 3) (rBin .BitXor (rVar 0) (rBin .LShift (rK (.int 1)) (rVar 2)))))])))))
noncomputable def m_needed:Fn:=fnOf 1 (sSeq (sDrop (rCall m_check_switch [rVar 0]))
 (sRet (rComp 0 [0] (iRange (rIx (rLook 0) (rK (.int 0)))) (some (rCmp .Gt (rCall m_how_much [rVar 1,rVar 0]) (rK (.int 0)))) (rVar 0))))
noncomputable def m_marks:Fn:=fnOf 2 (sSeq (sDrop (rCall m_check_switch [rVar 0]))
 (sSeq (sSet 1 (rCall dMin [rCnt (rIx (rLook 0) (rK (.int 1))) (rK (.int 1)),rCnt (rIx (rLook 0) (rK (.int 1))) (rK (.int 0))]))
 (sRet (rTup [rVar 1,rCall dTuple [rCall dSorted [rComp 0 [0] (iRange (rIx (rLook 0) (rK (.int 0)))) none (rCall m_how_much [rVar 1,rVar 0])]]]))))
noncomputable def m_check_listed:Fn:=fnOf 1 (sIf (rNot (rCall m_is_many_listed [rVar 0]))
 (sRaise 2)
 (sPass))
noncomputable def m_check_one:Fn:=fnOf 1 (sSeq (sDrop (rCall m_check_switch [rVar 0]))
 (sDrop (rCall m_check_listed [rIx (rLook 0) (rK (.int 0))])))
noncomputable def m_check_two:Fn:=fnOf 2 (sSeq (sDrop (rCall m_check_alike [rVar 0,rVar 1]))
 (sDrop (rCall m_check_listed [rIx (rLook 0) (rK (.int 0))])))
noncomputable def m_all_led:Fn:=fnOf 1 (sRet (rComp 0 [0] (rCall m_all_moves [rIx (rLook 0) (rK (.int 0))]) none (rCall m_moved [rVar 1,rVar 0])))
noncomputable def m_least_form:Fn:=fnOf 1 (sSeq (sDrop (rCall m_check_one [rVar 0]))
 (sRet (rCall dMin1 [rCall m_all_led [rVar 0]])))
noncomputable def m_are_kin:Fn:=fnOf 2 (sSeq (sDrop (rCall m_check_two [rVar 0,rVar 1]))
 (sRet (rCmp .In (rVar 1) (rCall m_all_led [rVar 0]))))
noncomputable def mS (self:Fn):Fn:=fnOf 4 (sSeq (sIf (rCmp .Eq (rCall dLen [rLook 0]) (rK (.int 1)))
 (sRet (rVar 0))
 (sPass))
 (sSeq (sSet 1 (rBin .FloorDiv (rCall dLen [rLook 0]) (rK (.int 2))))
 (sSeq (sSet 2 (rCall self [rCut (rLook 0) none (some (rVar 1))]))
 (sSeq (sSet 3 (rCall self [rCut (rLook 0) (some (rVar 1)) none]))
 (sRet (rBin .Add (rComp 2 [] (iZip (rVar 2) (rVar 3)) none (rBin .Add (rVar 0) (rVar 1))) (rComp 2 [] (iZip (rVar 2) (rVar 3)) none (rBin .Sub (rVar 0) (rVar 1)))))))))
noncomputable def m_summed:Fn:=recF mS 12
noncomputable def m_sums:Fn:=fnOf 1 (sSeq (sDrop (rCall m_check_switch [rVar 0]))
 (sRet (rCall dTuple [rCall m_summed [rComp 0 [] (rIx (rLook 0) (rK (.int 1))) none (rBin .Sub (rK (.int 1)) (rBin .Mult (rK (.int 2)) (rVar 0)))]])))
noncomputable def m_by_weights:Fn:=fnOf 4 (sSeq (sDrop (rCall m_check_switch [rVar 0]))
 (sSeq (sOwn 1 (rBin .Mult (rLst [rK (.int 0)]) (rBin .Add (rIx (rLook 0) (rK (.int 0))) (rK (.int 1)))))
 (sSeq (sFor [2,3] false (iEnum (rCall m_sums [rVar 0]))
 (sAugS 1 (rCall m_how_many_ones [rVar 2]) (rBin .Mult (rVar 3) (rVar 3))))
 (sRet (rGive 1)))))
noncomputable def m_sum_of_names:Fn:=fnOf 4 (sSeq (sSet 3 (rComp 0 [1] (iRange (rCall m_how_many_settings [rVar 0])) none (rCall m_how_many_ones [rBin .BitAnd (rVar 1) (rVar 0)])))
 (sRet (rTup [rVar 0,rCall dTuple [rComp 0 [2] (rLook 3) none (rBin .Mod (rBin .Add (rVar 0) (rVar 1)) (rK (.int 2)))]])))
noncomputable def m_nearest:Fn:=fnOf 6 (sSeq (sSet 1 (rCall m_sums [rVar 0]))
 (sSeq (sSet 2 (rComp 0 [] (rLook 1) none (rCall dAbs [rLook 0])))
 (sSeq (sSet 3 (rCall dMax1 [rLook 2]))
 (sSeq (sSet 4 (rMeth dIndex (rLook 2) (rVar 3)))
 (sSeq (sSet 5 (rIf (rCmp .Lt (rIx (rLook 1) (rVar 4)) (rK (.int 0))) (rK (.int 1)) (rK (.int 0))))
 (sRet (rTup [rCall m_sum_of_names [rIx (rLook 0) (rK (.int 0)),rVar 4,rVar 5],rBin .FloorDiv (rBin .Sub (rCall dLen [rLook 1]) (rVar 3)) (rK (.int 2))])))))))
noncomputable def m_how_far:Fn:=fnOf 1 (sRet (rIx (rCall m_nearest [rVar 0]) (rK (.int 1))))
noncomputable def m_is_flattest:Fn:=fnOf 2 (sSeq (sSet 1 (rComp 0 [] (rCall m_sums [rVar 0]) none (rCall dAbs [rLook 0])))
 (sRet (rCmp .Eq (rCall dMin1 [rLook 1]) (rCall dMax1 [rLook 1]))))
noncomputable def m_is_part:Fn:=fnOf 1 (sRet (rOr (rCmp .Is (rVar 0) (rK .non)) (rCall m_is_whole_below [rVar 0,rK (.int 2)])))
noncomputable def m_is_term:Fn:=fnOf 2 (sSeq (sIf (rOr (rNot (rCall m_is_many [rVar 0])) (rOr (rNot (rIs (bI) (rVar 1))) (rCmp .NotEq (rCall dLen [rLook 1]) (rVar 0))))
 (sRet (rK (.bl false)))
 (sPass))
 (sRet (rCall dAll [rComp 0 [] (rLook 1) none (rCall m_is_part [rVar 0])])))
noncomputable def m_check_term:Fn:=fnOf 2 (sIf (rNot (rCall m_is_term [rVar 0,rVar 1]))
 (sRaise 5)
 (sPass))
noncomputable def m_held_at:Fn:=fnOf 6 (sSeq (sIf (rNot (rIs (bI) (rVar 0)))
 (sRaise 5)
 (sPass))
 (sSeq (sDrop (rCall m_check_term [rCall dLen [rLook 0],rVar 0]))
 (sSeq (sSet 1 (rLst [rK (.int 0)]))
 (sSeq (sFor [2,3] false (iEnum (rVar 0))
 (sSeq (sSet 4 (rIf (rCmp .Eq (rVar 3) (rK (.int 1))) (rLst []) (rVar 1)))
  (sSeq (sSet 5 (rIf (rCmp .Eq (rVar 3) (rK (.int 0))) (rLst []) (rComp 0 [2] (rLook 1) none (rBin .Add (rVar 0) (rBin .LShift (rK (.int 1)) (rVar 1))))))
  (sSet 1 (rBin .Add (rVar 4) (rVar 5))))))
 (sRet (rVar 1))))))
noncomputable def m_all_terms:Fn:=fnOf 5 (sSeq (sSet 1 (rLst [rTup []]))
 (sSeq (sFor [2] true (iRange (rVar 0))
 (sSeq (sOwn 3 (rLst []))
  (sSeq (sFor [4] true (rVar 1)
  (sExt 3 (rComp 0 [4] (rK (.tup [.int 0, .int 1, .non])) none (rBin .Add (rVar 1) (rTup [rVar 0])))))
  (sFrz [3] (sSet 1 (rVar 3))))))
 (sRet (rVar 1))))
noncomputable def m_widened:Fn:=fnOf 1 (sRet (rComp 2 [0] (iEnum (rVar 0)) (some (rCmp .IsNot (rVar 1) (rK .non))) (rBin .Add (rBin .Add (rCut (rLook 2) none (some (rVar 0))) (rTup [rK .non])) (rCut (rLook 2) (some (rBin .Add (rVar 0) (rK (.int 1)))) none))))
noncomputable def m_primes:Fn:=fnOf 3 (sSeq (sDrop (rCall m_check_switch [rVar 0]))
 (sSeq (sDNew 1)
 (sSeq (sFor [2] true (rCall m_all_terms [rIx (rLook 0) (rK (.int 0))])
 (sIf (rCall dAll [rComp 0 [0] (rCall m_held_at [rVar 2]) none (rCmp .Eq (rIx (rIx (rLook 1) (rK (.int 1))) (rVar 0)) (rK (.int 1)))])
  (sPut 1 (rVar 2) (rK (.bl true)))
  (sPass)))
 (sRet (rComp 0 [1] (iLook 1) (some (rNot (rCall dAny [rComp 0 [1] (rCall m_widened [rVar 0]) none (rInS .In (rVar 0) 1)]))) (rVar 0))))))
noncomputable def m_essentials:Fn:=fnOf 5 (sSeq (sSet 1 (rCall m_primes [rVar 0]))
 (sSeq (sOwn 2 (rBin .Mult (rLst [rK (.int 0)]) (rCall dLen [rIx (rLook 0) (rK (.int 1))])))
 (sSeq (sFor [3] true (rVar 1)
 (sFor [4] true (rCall m_held_at [rVar 3])
  (sAugS 2 (rVar 4) (rK (.int 1)))))
 (sRet (rComp 0 [2] (rLook 1) (some (rCall dAny [rComp 0 [1] (rCall m_held_at [rVar 0]) none (rCmp .Eq (rIx (rLook 1) (rVar 0)) (rK (.int 1)))])) (rVar 0))))))
noncomputable def m_law_cell:Fn:=fnOf 2 (sSeq (sIf (rCmp .Lt (rVar 1) (rCall dLen [rLook 0]))
 (sRet (rIx (rLook 0) (rVar 1)))
 (sPass))
 (sSeq (sIf (rCmp .Eq (rVar 0) (rLst []))
 (sRet (rK (.int 0)))
 (sPass))
 (sRet (rBin .Add (rBin .Mult (rIx (rLook 0) (rBin .Mod (rVar 1) (rCall dLen [rLook 0]))) (rK (.int 31))) (rVar 1)))))
noncomputable def m_law_pick:Fn:=fnOf 4 (sSeq (sSet 3 (rBin .Mod (rBin .Mult (rBin .Add (rCall m_law_cell [rVar 0,rVar 1]) (rBin .Mult (rK (.int 6151)) (rBin .Add (rVar 1) (rK (.int 1))))) (rK (.int 40692))) (rK (.int 2147483399))))
 (sRet (rBin .Mod (rBin .Mod (rBin .Add (rBin .Mult (rVar 3) (rVar 3)) (rBin .FloorDiv (rVar 3) (rK (.int 31)))) (rK (.int 2147483629))) (rVar 2))))
noncomputable def m_law_setting:Fn:=fnOf 2 (sRet (rCall dTuple [rComp 0 [1] (iRange (rVar 0)) none (rBin .Mod (rBin .FloorDiv (rVar 1) (rIx (rLst [rK (.int 1),rK (.int 2),rK (.int 4),rK (.int 8)]) (rVar 0))) (rK (.int 2)))]))
noncomputable def m_law_odd:Fn:=fnOf 2 (sRet (rBin .Mod (rCall dSum [rComp 2 [] (iZip (rCall m_law_setting [rK (.int 4),rVar 0]) (rCall m_law_setting [rK (.int 4),rVar 1])) none (rBin .Mult (rVar 0) (rVar 1))]) (rK (.int 2))))
noncomputable def m_law_switch:Fn:=fnOf 9 (sSeq (sSet 3 (rIx (rLst [rK (.int 1),rK (.int 2),rK (.int 4),rK (.int 8),rK (.int 16)]) (rVar 2)))
 (sSeq (sSet 4 (rCall m_law_pick [rVar 0,rVar 1,rK (.int 6)]))
 (sSeq (sOwn 5 (rComp 0 [1,0] (iRange (rVar 3)) none (rCall m_law_pick [rVar 2,rBin .Add (rBin .Add (rVar 1) (rK (.int 1))) (rVar 0),rK (.int 2)])))
 (sSeq (sIf (rAnd (rCmp .Eq (rVar 4) (rK (.int 0))) (rCmp .Gt (rVar 2) (rK (.int 0))))
 (sSeq (sSet 6 (rCall m_law_pick [rVar 0,rBin .Add (rVar 1) (rK (.int 20)),rVar 3]))
  (sOwn 5 (rComp 0 [6] (iRange (rVar 3)) none (rCall m_law_odd [rVar 1,rVar 0]))))
 (sIf (rCmp .Eq (rVar 4) (rK (.int 1)))
  (sOwn 5 (rComp 0 [1,2,0] (iRange (rVar 3)) none (rCall dInt [rCmp .GtE (rCall dSum [rCall m_law_setting [rVar 2,rVar 0]]) (rBin .Add (rK (.int 1)) (rCall m_law_pick [rVar 3,rBin .Add (rVar 1) (rK (.int 21)),rK (.int 3)]))])))
  (sIf (rAnd (rCmp .Eq (rVar 4) (rK (.int 2))) (rCmp .Gt (rVar 2) (rK (.int 0))))
   (sSeq (sSet 7 (rCall m_law_pick [rVar 0,rBin .Add (rVar 1) (rK (.int 22)),rVar 2]))
    (sOwn 5 (rComp 0 [7,5] (iRange (rVar 3)) none (rIx (rLook 2) (rBin .Sub (rVar 0) (rBin .Mult (rBin .Mod (rBin .FloorDiv (rVar 0) (rIx (rLst [rK (.int 1),rK (.int 2),rK (.int 4),rK (.int 8)]) (rVar 1))) (rK (.int 2))) (rIx (rLst [rK (.int 1),rK (.int 2),rK (.int 4),rK (.int 8)]) (rVar 1))))))))
   (sPass))))
 (sSeq (sIf (rAnd (rCmp .Lt (rVar 4) (rK (.int 3))) (rCmp .Eq (rCall m_law_pick [rVar 0,rBin .Add (rVar 1) (rK (.int 23)),rK (.int 3)]) (rK (.int 0))))
 (sSeq (sSet 8 (rCall m_law_pick [rVar 0,rBin .Add (rVar 1) (rK (.int 24)),rVar 3]))
  (sPut 5 (rVar 8) (rBin .Sub (rK (.int 1)) (rIx (rLook 5) (rVar 8)))))
 (sPass))
 (sRet (rTup [rVar 2,rCall dTuple [rLook 5]])))))))
noncomputable def m_law:Fn:=fnOf 8 (sSeq (sSet 1 (rCall m_law_pick [rVar 0,rK (.int 0),rK (.int 4)]))
 (sSeq (sSet 2 (rCall m_law_switch [rVar 0,rK (.int 10),rVar 1]))
 (sSeq (sSet 3 (rCall m_all_moves [rVar 1]))
 (sSeq (sFor [4] true (iRange (rK (.int 2)))
 (sSeq (sSet 5 (rIx (rLook 3) (rCall m_law_pick [rVar 0,rBin .Add (rK (.int 100)) (rVar 4),rCall dLen [rLook 3]])))
  (sSeq (sSet 6 (rCall m_moved [rVar 2,rVar 5]))
  (sSeq (sIf (rOr (rCmp .NotEq (rCall m_degree [rVar 6]) (rCall m_degree [rVar 2])) (rOr (rCmp .NotEq (rCall m_by_weights [rVar 6]) (rCall m_by_weights [rVar 2])) (rCmp .NotEq (rCall m_how_far [rVar 6]) (rCall m_how_far [rVar 2]))))
  (sRet (rK (.bl false)))
  (sPass))
  (sSeq (sIf (rOr (rCmp .NotEq (rCall m_is_flattest [rVar 6]) (rCall m_is_flattest [rVar 2])) (rCmp .NotEq (rCall dLen [rCall m_needed [rVar 6]]) (rCall dLen [rCall m_needed [rVar 2]])))
  (sRet (rK (.bl false)))
  (sPass))
  (sSeq (sIf (rCmp .NotEq (rCall m_marks [rVar 6]) (rCall m_marks [rVar 2]))
  (sRet (rK (.bl false)))
  (sPass))
  (sSeq (sSet 7 (rComp 0 [2] (iRange (rVar 1)) none (rCall m_how_much [rVar 1,rVar 0])))
  (sSeq (sIf (rCmp .NotEq (rCall dSorted [rComp 0 [6] (iRange (rVar 1)) none (rCall m_how_much [rVar 1,rVar 0])]) (rCall dSorted [rLook 7]))
  (sRet (rK (.bl false)))
  (sPass))
  (sSeq (sIf (rCmp .Eq (rIx (rLook 5) (rK (.int 2))) (rK (.int 0)))
  (sSeq (sIf (rOr (rCmp .NotEq (rCall dLen [rCall m_ones [rVar 6]]) (rCall dLen [rCall m_ones [rVar 2]])) (rCmp .NotEq (rCall dLen [rCall m_primes [rVar 6]]) (rCall dLen [rCall m_primes [rVar 2]])))
   (sRet (rK (.bl false)))
   (sPass))
   (sIf (rCmp .NotEq (rCall dLen [rCall m_essentials [rVar 6]]) (rCall dLen [rCall m_essentials [rVar 2]]))
   (sRet (rK (.bl false)))
   (sPass)))
  (sPass))
  (sSeq (sIf (rOr (rCmp .NotEq (rCall m_moved [rVar 6,rCall m_back [rVar 5]]) (rVar 2)) (rCmp .NotEq (rCall m_primes [rCall m_moved [rVar 6,rCall m_back [rVar 5]]]) (rCall m_primes [rVar 2])))
  (sRet (rK (.bl false)))
  (sPass))
  (sSeq (sIf (rCmp .NotEq (rCall m_behind [rVar 5,rCall m_back [rVar 5]]) (rCall m_still [rVar 1]))
  (sRet (rK (.bl false)))
  (sPass))
  (sIf (rAnd (rCmp .Lt (rVar 1) (rK (.int 3))) (rOr (rCmp .IsNot (rCall m_are_kin [rVar 2,rVar 6]) (rK (.bl true))) (rCmp .NotEq (rCall m_least_form [rVar 6]) (rCall m_least_form [rVar 2]))))
  (sRet (rK (.bl false)))
  (sPass)))))))))))))
 (sRet (rK (.bl true)))))))
open PySem
noncomputable abbrev Sc (ns:List Int):D:= .lst (ns.map D.int)
theorem mT (ns:List Int):plain (Sc ns)=true:=by
 show plains (ns.map D.int)=true
 rw [cO];intro x m;obtain⟨i,_,rfl⟩:=List.mem_map.1 m;rfl
noncomputable def cellI (ns:List Int) (k:Nat):Int:=if k<ns.length then ns.getD k 0 else if ns=[] then 0 else ns.getD (k % ns.length) 0 * 31+k
theorem yZ (ns:List Int) (k:Nat):m_law_cell [Sc ns, .int k]= .ok (.int (cellI ns k)):=by
 have h0:dLen [Sc ns]= .ok (.int ns.length):=by simp [dLen,items]
 by_cases h:k<ns.length
 ·have e:(ns.map D.int)[k]? =some (D.int (cellI ns k)):=by simp [cellI,h]
  refine aG (dY ((eY ?_).trans (aJ ((d9 rfl rfl).trans (dZ e)))))
  refine(aV rfl ((rCall1 rfl).trans h0)).trans ?_
  simp [dCmp,h]
 ·refine aG ((aB ((bA ((aV rfl ((rCall1 rfl).trans h0)).trans ?_)).trans rfl)).trans ?_)
  ·simp [dCmp];omega
  have he:rCmp .Eq (rVar 0) (rLst []) [.sh (Sc ns), .sh (.int k)]= .ok (.bl (decide (ns=[]))):=by
   show dCmp .Eq (Sc ns) (.lst [])=_
   rw [fA (e9 (mT ns) rfl (by decide))]
   cases ns<;>simp [deq,deqs]
  by_cases h1:ns=[]
  ·subst h1
   exact dY ((eY (he.trans rfl)).trans rfl)
  ·refine(aB ((bA (he.trans (by simp [h1]))).trans rfl)).trans (aJ ?_)
   have l:0<ns.length:=List.length_pos_iff.2 h1
   have e:(ns.map D.int)[k % ns.length]? =some (D.int (ns.getD (k % ns.length) 0)):=by simp [Nat.mod_lt _ l]
   have e2:dBin .Mod (.int k) (.int ns.length)= .ok (.int ((k % ns.length:Nat):Int)):=by
    have:(0:Int)<ns.length:=by omega
    simp [dBin,dArith,this];omega
   refine(aI ((aI ((d9 rfl ((aI rfl ((rCall1 rfl).trans h0)).trans e2)).trans (dZ e)) rfl).trans (v6 rfl)) rfl).trans ?_
   simp [dBin,dArith,cellI,h,h1]
noncomputable def drawnI (ns:List Int) (k:Nat):Int:=(cellI ns k+6151 * (k+1)) * 40692 % 2147483399
noncomputable def pickI (ns:List Int) (k:Nat) (m:Int):Int:=(drawnI ns k * drawnI ns k+drawnI ns k / 31) % 2147483629 % m
theorem y0 (ns:List Int) (k:Nat) {m:Int} (hm:0<m):m_law_pick [Sc ns, .int k, .int m]= .ok (.int (pickI ns k m)):=by
 have h1:rBin .Mod (rBin .Mult (rBin .Add (rCall m_law_cell [rVar 0,rVar 1]) (rBin .Mult (rK (.int 6151)) (rBin .Add (rVar 1) (rK (.int 1))))) (rK (.int 40692))) (rK (.int 2147483399)) [.sh (Sc ns), .sh (.int k), .sh (.int m), .no]= .ok (.int (drawnI ns k)):=by
  refine(aI ((aI ((aI ((rCall2 rfl rfl).trans (yZ ns k)) (y:= .int (6151 * (k+1))) ?_).trans rfl) rfl).trans (?_:_=R.ok (.int ((cellI ns k+6151 * (k+1)) * 40692)))) rfl).trans ?_
  ·refine(aI rfl rfl).trans ?_;simp [dBin,dArith,sml]
  ·simp [dBin,dArith,sml]
  ·simp [dBin,dArith,drawnI]
 refine aG ((aB (a9 h1)).trans (aJ ?_))
 unfold pickI
 have hs:sml (drawnI ns k)=true:=by
  have:0≤drawnI ns k∧drawnI ns k<2147483399:=by unfold drawnI;omega
  simp [sml];omega
 generalize drawnI ns k=x at *
 have h2:rBin .FloorDiv (rVar 3) (rK (.int 31)) [.sh (Sc ns), .sh (.int k), .sh (.int m), .sh (.int (x))]= .ok (.int (x / 31)):=by
  refine(aI rfl rfl).trans ?_;simp [dBin,dArith]
 have h3:rBin .Mult (rVar 3) (rVar 3) [.sh (Sc ns), .sh (.int k), .sh (.int m), .sh (.int x)]= .ok (.int (x * x)):=by
  refine(aI rfl rfl).trans ?_;simp [dBin,dArith,hs]
 refine(aI ((aI ((aI h3 h2).trans rfl) rfl).trans (?_:_=R.ok (.int ((x * x+x / 31) % 2147483629)))) rfl).trans ?_
 ·simp [dBin,dArith]
 ·exact iA hm
theorem kY (ns:List Int) (k:Nat) {m:Int} (hm:0<m):0≤pickI ns k m∧pickI ns k m<m:=⟨Int.emod_nonneg _ (by omega),Int.emod_lt_of_pos _ hm⟩
def bit (d:D):Prop:=d= .int 0∨d= .int 1
theorem rF (i:Int):bit (.int (i % 2)):=by
 unfold bit
 rcases(show i % 2=0∨i % 2=1 by omega) with h | h<;>simp [h]
theorem ix4 {a:F} {ρ:Rho} {j:Nat} (h:a ρ= .ok (.int j)) (l:j<4):rIx (rLst [rK (.int 1),rK (.int 2),rK (.int 4),rK (.int 8)]) a ρ= .ok (.int ((2 ^ j:Nat):Int)):=by
 refine(v5 rfl h).trans (dZ ?_)
 rcases(show j=0∨j=1∨j=2∨j=3 by omega) with rfl | rfl | rfl | rfl<;>rfl
theorem ix5 {a:F} {ρ:Rho} {j:Nat} (h:a ρ= .ok (.int j)) (l:j≤4):rIx (rLst [rK (.int 1),rK (.int 2),rK (.int 4),rK (.int 8),rK (.int 16)]) a ρ= .ok (.int ((2 ^ j:Nat):Int)):=by
 refine(v5 rfl h).trans (dZ ?_)
 rcases(show j=0∨j=1∨j=2∨j=3∨j=4 by omega) with rfl | rfl | rfl | rfl | rfl<;>rfl
theorem jQ {m:Nat} (h:m≤4):1≤2 ^ m∧2 ^ m≤16:=by
 rcases(show m=0∨m=1∨m=2∨m=3∨m=4 by omega) with rfl | rfl | rfl | rfl | rfl<;>decide
theorem d6 {m:Nat} (hm:m≤4) (k:Int): ∃ xs,m_law_setting [.int m, .int k]= .ok (.tup xs)∧xs.length=m∧ ∀ x∈xs,bit x:=by
 obtain⟨xs,e,l,b⟩:=bR (n:=0) (cs:=[1]) (it:=iRange (rVar 0)) (e:=rBin .Mod (rBin .FloorDiv (rVar 1) (rIx (rLst [rK (.int 1),rK (.int 2),rK (.int 4),rK (.int 8)]) (rVar 0))) (rK (.int 2))) (ρ:=[.sh (.int m), .sh (.int k)]) (ds:=rngD m) (P:=bit)
  (.inl (aQ rfl (by omega))) fun d h=>by
   obtain⟨j,hj,rfl⟩:=dI h
   have hp:=jQ (m:=j) (by omega)
   refine⟨[.sh (.int j)],_,rfl,(aI ((aI rfl (ix4 (a:=rVar 0) (j:=j) rfl (by omega))).trans (rE ?_ ?_)) rfl).trans (iA (by decide)),rF _⟩<;>omega
 exact⟨xs,aG (aJ ((a8 e).trans rfl)),l.trans bH,b⟩
theorem allInt: ∀ {xs:List D},(∀ x∈xs, ∃ i,x=D.int i)→ ∃ is:List Int,xs=is.map D.int
 | [],_=>⟨[],rfl⟩
 | x::r,h=>by
  obtain⟨i,rfl⟩:=h x (.head _)
  obtain⟨is,rfl⟩:=allInt (xs:=r) fun y m=>h y (.tail _ m)
  exact⟨i::is,rfl⟩
theorem y6 {d:D} (h:bit d): ∃ i,d= .int i:=by rcases h with rfl | rfl<;>exact⟨_,rfl⟩
theorem mU (is:List Int):dSum [.lst (is.map D.int)]= .ok (.int is.sum):=by simp [dSum,items,cE]
theorem y8 (is:List Int):dSum [.tup (is.map D.int)]= .ok (.int is.sum):=by simp [dSum,items,cE]
theorem aCc (a b:Int): ∃ r,m_law_odd [.int a, .int b]= .ok r∧bit r:=by
 obtain⟨xs,e1,l1,b1⟩:=d6 (m:=4) (by decide) a
 obtain⟨ys,e2,l2,b2⟩:=d6 (m:=4) (by decide) b
 have hz:iZip (rCall m_law_setting [rK (.int 4),rVar 0]) (rCall m_law_setting [rK (.int 4),rVar 1]) [.sh (.int a), .sh (.int b)]= .ok (.lst ((xs.zip ys).map fun p=>D.tup [p.1,p.2])):=by
  have h1:rCall m_law_setting [rK (.int 4),rVar 0] [.sh (.int a), .sh (.int b)]= .ok (.tup xs):=(rCall2 rfl rfl).trans e1
  have h2:rCall m_law_setting [rK (.int 4),rVar 1] [.sh (.int a), .sh (.int b)]= .ok (.tup ys):=(rCall2 rfl rfl).trans e2
  simp [iZip,h1,h2,R.bind]
 obtain⟨zs,e,l,q⟩:=bR (n:=2) (cs:=[]) (e:=rBin .Mult (rVar 0) (rVar 1)) (P:=fun x=> ∃ i,x=D.int i) (.inl hz) fun d h=>by
  obtain⟨⟨x,y⟩,hm,rfl⟩:=List.mem_map.1 h
  obtain⟨mx,my⟩:=List.of_mem_zip hm
  have hx:=b1 x mx;have hy:=b2 y my
  refine⟨[.sh x, .sh y], ?_⟩
  rcases hx with rfl | rfl<;>rcases hy with rfl | rfl<;>exact⟨_,rfl,rfl,_,rfl⟩
 obtain⟨is,rfl⟩:=allInt q
 exact⟨_,aG (aJ ((aI ((a8 e).trans (mU is)) rfl).trans (iA (by decide)))),rF _⟩
theorem bE (ns:List Int) (k:Nat) {m:Nat} (hm:0<m): ∃ p:Nat,m_law_pick [Sc ns, .int k, .int m]= .ok (.int p)∧p<m:=by
 have h:(0:Int)<m:=by omega
 have r:=kY ns k h
 refine⟨(pickI ns k m).toNat,(y0 ns k h).trans ?_,by omega⟩
 rw [Int.toNat_of_nonneg r.1]
theorem aCd {p:Nat} (h:p<2):bit (.int p):=by
 rcases(show p=0∨p=1 by omega) with rfl | rfl
 ·exact .inl rfl
 ·exact .inr rfl
theorem v7 {ws:List D} (h: ∀ w∈ws,bit w) {p:Nat} (hp:p<ws.length): ∃ w,dIx (.lst ws) (.int p)= .ok w∧bit w:=
 ⟨ws[p],dZ (List.getElem?_eq_getElem hp),h _ (List.getElem_mem hp)⟩
theorem rG (ns:List Int) (at':Nat) {m:Nat} (hm:m≤4): ∃ ws,m_law_switch [Sc ns, .int at', .int m]= .ok (.tup [.int m, .tup ws])∧ws.length=2 ^ m∧ ∀ w∈ws,bit w:=by
 have hp:=jQ hm
 obtain⟨way,hw,lw⟩:=bE ns at' (m:=6) (by decide)
 -- the drawn worths
 obtain⟨ws0,e0,l0,b0⟩:=bR (n:=0) (cs:=[1,0]) (it:=iRange (rVar 3)) (e:=rCall m_law_pick [rVar 2,rBin .Add (rBin .Add (rVar 1) (rK (.int 1))) (rVar 0),rK (.int 2)]) (P:=bit) (ds:=rngD (2 ^ m))
  (ρ:=[.sh (Sc ns), .sh (.int at'), .sh (.int m), .sh (.int (2 ^ m:Nat)), .sh (.int way), .no, .no, .no, .no]) (.inl (aQ rfl (by omega))) fun d h=>by
   obtain⟨j,hj,rfl⟩:=dI h
   obtain⟨p,hp,lp⟩:=bE ns (at'+1+j) (m:=2) (by decide)
   exact⟨[.sh (.int j)],_,rfl,(rCall3 (x:=Sc ns) (y:= .int ((at'+1+j:Nat):Int)) (z:= .int 2) rfl rfl rfl).trans hp,aCd lp⟩
 rw [bH] at l0
 -- the ways
 have h4: ∃ ws a b,(sIf (rAnd (rCmp .Eq (rVar 4) (rK (.int 0))) (rCmp .Gt (rVar 2) (rK (.int 0))))
   (sSeq (sSet 6 (rCall m_law_pick [rVar 0,rBin .Add (rVar 1) (rK (.int 20)),rVar 3]))
    (sOwn 5 (rComp 0 [6] (iRange (rVar 3)) none (rCall m_law_odd [rVar 1,rVar 0]))))
   (sIf (rCmp .Eq (rVar 4) (rK (.int 1)))
    (sOwn 5 (rComp 0 [1,2,0] (iRange (rVar 3)) none (rCall dInt [rCmp .GtE (rCall dSum [rCall m_law_setting [rVar 2,rVar 0]]) (rBin .Add (rK (.int 1)) (rCall m_law_pick [rVar 3,rBin .Add (rVar 1) (rK (.int 21)),rK (.int 3)]))])))
    (sIf (rAnd (rCmp .Eq (rVar 4) (rK (.int 2))) (rCmp .Gt (rVar 2) (rK (.int 0))))
     (sSeq (sSet 7 (rCall m_law_pick [rVar 0,rBin .Add (rVar 1) (rK (.int 22)),rVar 2]))
      (sOwn 5 (rComp 0 [7,5] (iRange (rVar 3)) none (rIx (rLook 2) (rBin .Sub (rVar 0) (rBin .Mult (rBin .Mod (rBin .FloorDiv (rVar 0) (rIx (rLst [rK (.int 1),rK (.int 2),rK (.int 4),rK (.int 8)]) (rVar 1))) (rK (.int 2))) (rIx (rLst [rK (.int 1),rK (.int 2),rK (.int 4),rK (.int 8)]) (rVar 1))))))))
     (sPass)))) [.sh (Sc ns), .sh (.int at'), .sh (.int m), .sh (.int (2 ^ m:Nat)), .sh (.int way), .ow ws0, .no, .no, .no]
   = .nx [.sh (Sc ns), .sh (.int at'), .sh (.int m), .sh (.int (2 ^ m:Nat)), .sh (.int way), .ow ws,a,b, .no]∧ws.length=2 ^ m∧ ∀ w∈ws,bit w:=by
  have hgt: ∀ ρ:Rho,ρ[2]? =some (.sh (.int m))→rCmp .Gt (rVar 2) (rK (.int 0)) ρ= .ok (.bl (decide (0<m))):=fun ρ h=>by
   refine(aV (x:= .int m) (by simp [rVar,h]) rfl).trans ?_
   simp [dCmp]
  have hway: ∀ (c:Nat) (ρ:Rho),ρ[4]? =some (.sh (.int way))→rCmp .Eq (rVar 4) (rK (.int c)) ρ= .ok (.bl (decide (way=c))):=fun c ρ h=>by
   refine(aV (x:= .int way) (by simp [rVar,h]) rfl).trans ?_
   rw [fA rfl]
   show R.ok (.bl ((way:Int)==(c:Int)))=_
   congr 2;rw [Bool.eq_iff_iff];simp;omega
  have hand: ∀ c:Nat,rAnd (rCmp .Eq (rVar 4) (rK (.int c))) (rCmp .Gt (rVar 2) (rK (.int 0))) [.sh (Sc ns), .sh (.int at'), .sh (.int m), .sh (.int (2 ^ m:Nat)), .sh (.int way), .ow ws0, .no, .no, .no]= .ok (.bl (decide (way=c∧0<m))):=fun c=>by
   by_cases h:way=c
   ·refine(dH ((hway c _ rfl).trans (by simp [h]))).trans ((hgt _ rfl).trans (by simp [h]))
   ·refine(eZ ((hway c _ rfl).trans (by simp [h]))).trans (by simp [h])
  by_cases w0:way=0∧0<m
  ·obtain⟨mask,hk,lk⟩:=bE ns (at'+20) (m:=2 ^ m) (by omega)
   obtain⟨ws,e,l,b⟩:=bR (n:=0) (cs:=[6]) (it:=iRange (rVar 3)) (e:=rCall m_law_odd [rVar 1,rVar 0]) (P:=bit) (ds:=rngD (2 ^ m))
    (ρ:=[.sh (Sc ns), .sh (.int at'), .sh (.int m), .sh (.int (2 ^ m:Nat)), .sh (.int way), .ow ws0, .sh (.int mask), .no, .no]) (.inl (aQ rfl (by omega))) fun d h=>by
     obtain⟨j,hj,rfl⟩:=dI h
     obtain⟨r,hr,br⟩:=aCc mask j
     exact⟨[.sh (.int j)],_,rfl,(rCall2 rfl rfl).trans hr,br⟩
   refine⟨ws, .sh (.int mask), .no,(eY ((hand 0).trans (by simp [w0]))).trans ((aB (a9 ((rCall3 rfl rfl rfl).trans hk))).trans (hW e)),l.trans bH,b⟩
  by_cases w1:way=1
  ·obtain⟨q,hq,lq⟩:=bE ns (at'+21) (m:=3) (by omega)
   obtain⟨ws,e,l,b⟩:=bR (n:=0) (cs:=[1,2,0]) (it:=iRange (rVar 3)) (e:=rCall dInt [rCmp .GtE (rCall dSum [rCall m_law_setting [rVar 2,rVar 0]]) (rBin .Add (rK (.int 1)) (rCall m_law_pick [rVar 3,rBin .Add (rVar 1) (rK (.int 21)),rK (.int 3)]))]) (P:=bit) (ds:=rngD (2 ^ m))
    (ρ:=[.sh (Sc ns), .sh (.int at'), .sh (.int m), .sh (.int (2 ^ m:Nat)), .sh (.int way), .ow ws0, .no, .no, .no]) (.inl (aQ rfl (by omega))) fun d h=>by
     obtain⟨j,hj,rfl⟩:=dI h
     obtain⟨xs,hs,ls,bs⟩:=d6 hm j
     obtain⟨is,rfl⟩:=allInt fun x m=>y6 (bs x m)
     refine⟨[.sh (.int j)],_,rfl,(rCall1 ((aV ((rCall1 ((rCall2 rfl rfl).trans hs)).trans (y8 is)) ((aI rfl ((rCall3 rfl rfl rfl).trans hq)).trans rfl)).trans rfl)).trans rfl, ?_⟩
     unfold b2i;split
     ·exact .inr rfl
     ·exact .inl rfl
   refine⟨ws, .no, .no,(bA ((hand 0).trans (by simp [w0]))).trans ((eY ((hway 1 _ rfl).trans (by simp [w1]))).trans (hW e)),l.trans bH,b⟩
  by_cases w2:way=2∧0<m
  ·obtain⟨nm,hk,lk⟩:=bE ns (at'+22) (m:=m) (by omega)
   obtain⟨ws,e,l,b⟩:=bR (n:=0) (cs:=[7,5]) (it:=iRange (rVar 3)) (e:=rIx (rLook 2) (rBin .Sub (rVar 0) (rBin .Mult (rBin .Mod (rBin .FloorDiv (rVar 0) (rIx (rLst [rK (.int 1),rK (.int 2),rK (.int 4),rK (.int 8)]) (rVar 1))) (rK (.int 2))) (rIx (rLst [rK (.int 1),rK (.int 2),rK (.int 4),rK (.int 8)]) (rVar 1))))) (P:=bit) (ds:=rngD (2 ^ m))
    (ρ:=[.sh (Sc ns), .sh (.int at'), .sh (.int m), .sh (.int (2 ^ m:Nat)), .sh (.int way), .ow ws0, .no, .sh (.int nm), .no]) (.inl (aQ rfl (by omega))) fun d h=>by
     obtain⟨j,hj,rfl⟩:=dI h
     have hpn:=jQ (m:=nm) (by omega)
     have hle:j / 2 ^ nm % 2 * 2 ^ nm≤j:=Nat.le_trans (Nat.mul_le_mul_right _ (Nat.mod_le _ _)) (Nat.div_mul_le_self ..)
     obtain⟨w,hw,bw⟩:=v7 b0 (p:=j - j / 2 ^ nm % 2 * 2 ^ nm) (by omega)
     refine⟨[.sh (.int j)],w,rfl,(d9 (x:= .lst ws0) (y:= .int (j - j / 2 ^ nm % 2 * 2 ^ nm:Nat)) rfl ?_).trans hw,bw⟩
     refine(aI rfl ((aI ((aI ((aI rfl (ix4 (a:=rVar 1) (j:=nm) rfl (by omega))).trans (rE (by omega) (by omega))) rfl).trans (iA (by decide))) (ix4 (a:=rVar 1) (j:=nm) rfl (by omega))).trans (v6 (aCb (by omega) (by omega))))).trans ?_
     show R.ok (D.int ((j:Int) - (j:Int) / ((2 ^ nm:Nat):Int) % 2 * ((2 ^ nm:Nat):Int)))=_
     rw [Int.ofNat_sub hle,Int.natCast_mul,Int.natCast_emod,Int.natCast_ediv];rfl
   refine⟨ws, .no, .sh (.int nm),(bA ((hand 0).trans (by simp [w0]))).trans ((bA ((hway 1 _ rfl).trans (by simp [w1]))).trans ((eY ((hand 2).trans (by simp [w2]))).trans ((aB (a9 ((rCall3 rfl rfl rfl).trans hk))).trans (hW e)))),l.trans bH,b⟩
  ·exact⟨ws0, .no, .no,(bA ((hand 0).trans (by simp [w0]))).trans ((bA ((hway 1 _ rfl).trans (by simp [w1]))).trans ((bA ((hand 2).trans (by simp [w2]))).trans rfl)),l0,b0⟩
 obtain⟨ws1,a,b,e1,l1,b1⟩:=h4
 -- one worth turned
 have h5: ∃ ws c,(sIf (rAnd (rCmp .Lt (rVar 4) (rK (.int 3))) (rCmp .Eq (rCall m_law_pick [rVar 0,rBin .Add (rVar 1) (rK (.int 23)),rK (.int 3)]) (rK (.int 0))))
   (sSeq (sSet 8 (rCall m_law_pick [rVar 0,rBin .Add (rVar 1) (rK (.int 24)),rVar 3]))
    (sPut 5 (rVar 8) (rBin .Sub (rK (.int 1)) (rIx (rLook 5) (rVar 8)))))
   (sPass)) [.sh (Sc ns), .sh (.int at'), .sh (.int m), .sh (.int (2 ^ m:Nat)), .sh (.int way), .ow ws1,a,b, .no]
   = .nx [.sh (Sc ns), .sh (.int at'), .sh (.int m), .sh (.int (2 ^ m:Nat)), .sh (.int way), .ow ws,a,b,c]∧ws.length=2 ^ m∧ ∀ w∈ws,bit w:=by
  obtain⟨q,hq,lq⟩:=bE ns (at'+23) (m:=3) (by omega)
  have hc: ∃ t,rAnd (rCmp .Lt (rVar 4) (rK (.int 3))) (rCmp .Eq (rCall m_law_pick [rVar 0,rBin .Add (rVar 1) (rK (.int 23)),rK (.int 3)]) (rK (.int 0))) [.sh (Sc ns), .sh (.int at'), .sh (.int m), .sh (.int (2 ^ m:Nat)), .sh (.int way), .ow ws1,a,b, .no]= .ok (.bl t):=by
   have h1:rCmp .Lt (rVar 4) (rK (.int 3)) [.sh (Sc ns), .sh (.int at'), .sh (.int m), .sh (.int (2 ^ m:Nat)), .sh (.int way), .ow ws1,a,b, .no]= .ok (.bl (decide ((way:Int)<3))):=rfl
   by_cases hh:(way:Int)<3
   ·exact⟨_,(dH (h1.trans (by simp [hh]))).trans ((aV ((rCall3 rfl rfl rfl).trans hq) rfl).trans (fA rfl))⟩
   ·exact⟨_,eZ (h1.trans (by simp [hh]))⟩
  obtain⟨t,ht⟩:=hc
  cases t with
  | false=>exact⟨ws1, .no,(bA ht).trans rfl,l1,b1⟩
  | true=>
   obtain⟨pl,hl,ll⟩:=bE ns (at'+24) (m:=2 ^ m) (by omega)
   obtain⟨w,hw,bw⟩:=v7 b1 (p:=pl) (by omega)
   have hb: ∃ v,dBin .Sub (.int 1) w= .ok v∧bit v:=by
    rcases bw with rfl | rfl
    ·exact⟨_,rfl, .inr rfl⟩
    ·exact⟨_,rfl, .inl rfl⟩
   obtain⟨v,hv,bv⟩:=hb
   refine⟨ws1.set pl v, .sh (.int pl),(eY ht).trans ((aB (a9 ((rCall3 rfl rfl rfl).trans hl))).trans ?_),by simp [l1],fun x mx=> ?_⟩
   ·have hx:(rBin .Sub (rK (.int 1)) (rIx (rLook 5) (rVar 8))) [.sh (Sc ns), .sh (.int at'), .sh (.int m), .sh (.int (2 ^ m:Nat)), .sh (.int way), .ow ws1,a,b, .sh (.int pl)]= .ok v:=(aI rfl ((d9 rfl rfl).trans hw)).trans hv
    have hi:ixD ws1.length (pl:Int)=some pl:=by simp [ixD];omega
    show sPut 5 (rVar 8) (rBin .Sub (rK (.int 1)) (rIx (rLook 5) (rVar 8))) [.sh (Sc ns), .sh (.int at'), .sh (.int m), .sh (.int (2 ^ m:Nat)), .sh (.int way), .ow ws1,a,b, .sh (.int pl)]=_
    unfold sPut;rw [hx];simp [outR,rVar,hi]
   ·rcases List.mem_or_eq_of_mem_set mx with h | rfl
    ·exact b1 x h
    ·exact bv
 obtain⟨ws2,c,e2,l2,b2⟩:=h5
 refine⟨ws2,aG ((aB (a9 (ix5 (a:=rVar 2) (j:=m) rfl hm))).trans ((aB (a9 ((rCall3 rfl rfl rfl).trans hw))).trans ((aB (hW e0)).trans ((aB e1).trans ((aB e2).trans (aJ (rTup2 rfl ((rCall1 rfl).trans rfl)))))))),l2,b2⟩
noncomputable def wb (b:Int):D→Bool
 | .int i=>decide (0≤i)&&decide (i<b)
 | _=>false
theorem bX {x:D} (b:Int) (h:plain x=true):m_is_whole_below [x, .int b]= .ok (.bl (wb b x)):=by
 cases x with
 | int i=>
  exact aG (aJ ((dH rfl).trans (rC (i:=0) (j:=i) (k:=b) rfl rfl rfl)))
 | exc c=>exact absurd h (by simp [plain])
 | fn c=>exact absurd h (by simp [plain])
 | _=>rfl
theorem rH {x:D} {ds:List D} (b:Int) (hx:x= .tup ds∨x= .lst ds) (h:plains ds=true):m_are_whole_below [x, .int b]= .ok (.bl (ds.all (wb b))):=by
 have e:rComp 0 [1] (rLook 0) none (rCall m_is_whole_below [rVar 0,rVar 1]) [.sh x, .sh (.int b)]= .ow (ds.map fun d=> .bl (wb b d)):=
  rD (by rcases hx with rfl | rfl;exact .inr (.inl rfl);exact .inl rfl) fun d m=>(rCall2 rfl rfl).trans (bX b (cO.1 h d m))
 exact aG (aJ ((a8 e).trans aCa))
noncomputable def rowB (n b:Int):D→Bool
 | .tup ws=>decide ((ws.length:Int)=n)&&ws.all (wb b)
 | _=>false
theorem eqInt (i j:Int):dCmp .Eq (.int i) (.int j)= .ok (.bl (decide (i=j))):=by
 rw [fA (x:= .int i) (y:= .int j) rfl]
 show R.ok (.bl (i==j))=_
 congr 2
theorem neInt (i j:Int):dCmp .NotEq (.int i) (.int j)= .ok (.bl (!decide (i=j))):=by
 rw [kX (x:= .int i) (y:= .int j) rfl]
 show R.ok (.bl (!(i==j)))=_
 congr 2
theorem fC {x:D} (n b:Int) (h:plain x=true):m_is_row [x, .int n, .int b]= .ok (.bl (rowB n b x)):=by
 cases x with
 | tup ws=>
  refine aG (aJ ((dH rfl).trans ?_))
  have e:rCmp .Eq (rCall dLen [rLook 0]) (rVar 1) [.sh (.tup ws), .sh (.int n), .sh (.int b)]= .ok (.bl (decide ((ws.length:Int)=n))):=(aV rfl rfl).trans (eqInt _ _)
  by_cases hl:(ws.length:Int)=n
  ·exact(dH (e.trans (by simp [hl]))).trans ((rCall2 rfl rfl).trans ((rH b (.inl rfl) h).trans (by simp [rowB,hl])))
  ·exact(eZ (e.trans (by simp [hl]))).trans (by simp [rowB,hl])
 | exc c=>exact absurd h (by simp [plain])
 | fn c=>exact absurd h (by simp [plain])
 | _=>rfl
theorem uK {m:Nat} (h:m≤4):m_how_many_settings [.int m]= .ok (.int (2 ^ m:Nat)):=by
 rcases(show m=0∨m=1∨m=2∨m=3∨m=4 by omega) with rfl | rfl | rfl | rfl | rfl<;>rfl
noncomputable def isSw:D→Bool
 | .tup [a,b]=>wb 5 a&&(match a with | .int m=>rowB (2 ^ m.toNat:Nat) 2 b | _=>false)
 | _=>false
theorem v8 {b:Int} {x:D} (h:wb b x=true): ∃ m:Nat,x= .int m∧(m:Int)<b:=by
 cases x with
 | int i=>
  simp [wb] at h
  exact⟨i.toNat,by rw [Int.toNat_of_nonneg h.1],by omega⟩
 | _=>simp [wb] at h
theorem cF {d:D} (h:plain d=true):m_is_switch [d]= .ok (.bl (isSw d)):=by
 cases d with
 | tup xs=>
  have hl:rCmp .NotEq (rCall dLen [rLook 0]) (rK (.int 2)) [.sh (.tup xs)]= .ok (.bl (!decide ((xs.length:Int)=2))):=(aV rfl rfl).trans (neInt _ _)
  by_cases l2:xs.length=2
  ·obtain⟨a,b,rfl⟩: ∃ a b,xs=[a,b]:=by
    match xs,l2 with
    | [a,b],_=>exact⟨a,b,rfl⟩
   have hp:plain a=true∧plain b=true:=by simpa [plain,plains] using h
   have hm:rCall m_is_many [rIx (rLook 0) (rK (.int 0))] [.sh (.tup [a,b])]= .ok (.bl (wb 5 a)):=(rCall1 rfl).trans (aG (aJ ((rCall2 rfl rfl).trans (bX 5 hp.1))))
   have hc:rOr (rNot (rIs (bI) (rVar 0))) (rOr (rCmp .NotEq (rCall dLen [rLook 0]) (rK (.int 2))) (rNot (rCall m_is_many [rIx (rLook 0) (rK (.int 0))]))) [.sh (.tup [a,b])]= .ok (.bl (!wb 5 a)):=
    (cS rfl).trans ((cS (hl.trans rfl)).trans (hZ hm))
   cases hw:wb 5 a with
   | false=>exact aG (dY ((eY (hc.trans (by rw [hw];rfl))).trans (aJ (by simp [isSw,hw,rK])))) 
   | true=>
    obtain⟨m,rfl,lm⟩:=v8 hw
    refine aG ((aB ((bA (hc.trans (by rw [hw];rfl))).trans rfl)).trans (aJ ((rCall3 rfl ((rCall1 rfl).trans (uK (by omega))) rfl).trans ((fC _ _ hp.2).trans ?_))))
    simp [isSw,hw]
  ·refine aG (dY ((eY ((cS rfl).trans (aB9 (hl.trans ?_)))).trans (aJ ?_)))
   ·have: ¬ (xs.length:Int)=2:=by omega
    simp [this]
   ·match xs,l2 with
    | [],_=>rfl
    | [_],_=>rfl
    | _::_::_::_,_=>rfl
    | [_,_],h=>exact absurd rfl h
 | exc c=>exact absurd h (by simp [plain])
 | fn c=>exact absurd h (by simp [plain])
 | _=>rfl
theorem kZ {d:D} (h:plain d=true) (s:isSw d=true):m_check_switch [d]= .ok .non:=
 hX (ρ:=[.sh d]) ((bA ((hZ ((rCall1 rfl).trans (cF h))).trans (by rw [s];rfl))).trans rfl)
noncomputable def tn:D→D
 | .int i=> .int (1 - i)
 | d=>d
theorem cP {d:D} (h:bit d):plain d=true∧dep d=0:=by rcases h with rfl | rfl<;>exact⟨rfl,rfl⟩
theorem f9 {ws:List D} (h: ∀ w∈ws,bit w):plains ws=true:=cO.2 fun x m=>(cP (h x m)).1
theorem y9 {m:Nat} {ws:List D} (hm:m≤4) (l:ws.length=2 ^ m) (h: ∀ w∈ws,bit w):isSw (.tup [.int m, .tup ws])=true:=by
 have h1:wb 5 (.int m)=true:=by simp [wb];omega
 have h2:ws.all (wb 2)=true:=by
  rw [List.all_eq_true];intro w mw
  rcases h w mw with rfl | rfl<;>rfl
 have h3:isSw (.tup [.int m, .tup ws])=(wb 5 (.int m)&&(decide ((ws.length:Int)=(2 ^ m:Nat))&&ws.all (wb 2))):=rfl
 rw [h3,h1,h2,decide_eq_true (by rw [l])];rfl
theorem uL {m:Nat} {ws:List D} (h: ∀ w∈ws,bit w):plain (.tup [.int m, .tup ws])=true:=by
 simp [plain,plains,f9 h]
end SK.k79
namespace SK
open PySem
theorem iC {n:Nat} {cs:List Nat} {it e:F} {c:Option F} {ρ:Rho} {ds xs:List D} (hi:it ρ= .ok (.lst ds)∨it ρ= .ok (.tup ds)∨it ρ= .ow ds) (h:compGo (compF n (caps cs ρ) c e) ds=some xs):rComp n cs it c e ρ= .ow xs:=by
 rcases hi with hi | hi | hi<;>simp [rComp,hi,R.bind,items,h]
theorem zA {a b:F} {ρ:Rho} {xs ys:List D} (h:a ρ= .ok (.tup xs)) (k:b ρ= .ok (.tup ys)):iZip a b ρ= .ok (.lst ((xs.zip ys).map fun p=>D.tup [p.1,p.2])):=by simp [iZip,h,k,R.bind]
theorem rJ {a:F} {ρ:Rho} {xs:List D} (h:a ρ= .ok (.tup xs)):iEnum a ρ= .ok (.lst (xs.zipIdx.map fun p=>D.tup [.int (p.2:Nat),p.1])):=by simp [iEnum,h,R.bind,items]
theorem cQ {α:Type} {f:D→Option (Option D)} {h:α→D} {p:α→Bool} {q:α→D}: ∀ {L:List α},(∀ x∈L,f (h x)=some (if p x then some (q x) else none))→compGo f (L.map h)=some ((L.filter p).map q)
 | [],_=>rfl
 | x::r,k=>by
  have ih:=cQ (L:=r) fun y m=>k y (.tail _ m)
  have a:=k x (.head _)
  cases hp:p x<;>simp [compGo,a,hp,ih]
end SK
namespace SK.k79
open SK PySem
noncomputable def bD (b:Bool):D:= .int (b2i b)
noncomputable def sw (m:Nat) (bs:List Bool):D:= .tup [.int m, .tup (bs.map bD)]
def Good (m:Nat) (bs:List Bool):Prop:=m≤4∧bs.length=2 ^ m
theorem v9 (b:Bool):bit (bD b):=by
 cases b
 ·exact .inl rfl
 ·exact .inr rfl
theorem rL: ∀ {ws:List D},(∀ w∈ws,bit w)→ ∃ bs:List Bool,ws=bs.map bD
 | [],_=>⟨[],rfl⟩
 | w::r,h=>by
  obtain⟨bs,rfl⟩:=rL (ws:=r) fun x m=>h x (.tail _ m)
  rcases h w (.head _) with rfl | rfl
  ·exact⟨false::bs,rfl⟩
  ·exact⟨true::bs,rfl⟩
theorem jR (bs:List Bool): ∀ w∈bs.map bD,bit w:=fun w m=>by obtain⟨b,_,rfl⟩:=List.mem_map.1 m;exact v9 b
theorem k8 {m:Nat} {bs:List Bool} (g:Good m bs):isSw (sw m bs)=true:=y9 g.1 (by simpa using g.2) (jR bs)
theorem nY (m:Nat) (bs:List Bool):plain (sw m bs)=true:=uL (jR bs)
theorem wA (m:Nat) (bs:List Bool):dep (sw m bs)≤60:=by
 have:=dJ fun x mx=>(cP (jR bs x mx)).2
 simp [sw,dep,deps,this]
theorem uM (ns:List Int) (at':Nat) {m:Nat} (hm:m≤4): ∃ bs,Good m bs∧m_law_switch [Sc ns, .int at', .int m]= .ok (sw m bs):=by
 obtain⟨ws,e,l,b⟩:=rG ns at' hm
 obtain⟨bs,rfl⟩:=rL b
 exact⟨bs,⟨hm,by simpa using l⟩,e⟩
noncomputable def numB:List Bool→Nat
 | []=>0
 | b::r=>(if b then 1 else 0)+2 * numB r
theorem k9: ∀ s:List Bool,numB s<2 ^ s.length
 | []=>by simp [numB]
 | b::r=>by
  have:=k9 r
  simp only [numB,List.length_cons,Nat.pow_succ]
  split<;>omega
theorem zB (s:List Bool) (k:Nat):((s.zipIdx k).map fun p=>b2i p.1 * (2:Int) ^ p.2).sum=(2:Int) ^ k * (numB s:Int):=by
 induction s generalizing k with
 | nil=>simp [numB]
 | cons b r ih=>
  simp only [List.zipIdx_cons,List.map_cons,List.sum_cons,ih,numB]
  rw [Int.pow_succ]
  cases b
  ·simp only [b2i,Bool.false_eq_true,if_false,Int.zero_mul,Int.zero_add,Nat.zero_add,Int.natCast_mul]
   rw [Int.mul_assoc];rfl
  ·simp only [b2i,if_true,Int.one_mul,Int.natCast_add,Int.natCast_mul]
   rw [Int.mul_add,Int.mul_assoc];simp
theorem rM {s:List Bool} (hl:s.length≤4):m_number_of [.tup (s.map bD)]= .ok (.int (numB s)):=by
 have hl2:((s.map bD).zipIdx.map fun p=>D.tup [.int (p.2:Nat),p.1])=s.zipIdx.map fun p=>D.tup [.int (p.2:Nat),bD p.1]:=by
  rw [List.zipIdx_map];simp
 have e:rComp 2 [] (iEnum (rVar 0)) none (rBin .LShift (rVar 1) (rVar 0)) [.sh (.tup (s.map bD))]= .ow ((s.zipIdx.map fun p=>b2i p.1 * (2:Int) ^ p.2).map D.int):=by
  refine iC (ds:=s.zipIdx.map fun p=>D.tup [.int (p.2:Nat),bD p.1]) (.inl ((rJ rfl).trans (by rw [hl2]))) ?_
  rw [cQ (p:=fun _=>true) (q:=fun p=>D.int (b2i p.1 * (2:Int) ^ p.2)) fun p mp=> ?_]
  ·have hf:s.zipIdx.filter (fun _=>true)=s.zipIdx:=by rw [List.filter_eq_self];intros;rfl
   rw [hf];simp
  ·obtain⟨b,i⟩:=p
   have hi:i<s.length:=by
    have:=List.mem_zipIdx_iff_getElem?.1 mp
    exact(List.getElem?_eq_some_iff.1 this).1
   have h1:rBin .LShift (rVar 1) (rVar 0) [.sh (.int (i:Nat)), .sh (bD b)]= .ok (.int (b2i b * (2:Int) ^ i)):=by
    refine(aI (x:=bD b) (y:= .int (i:Nat)) rfl rfl).trans ?_
    have hs:sml (b2i b)=true:=by cases b<;>rfl
    have:(0:Int)≤(i:Int)∧(i:Int)≤1000∧sml (b2i b)=true:=⟨by omega,by omega,hs⟩
    simp [dBin,bD,dArith,this]
   simp [compF,tgt,caps,h1]
 refine aG (aJ ((a8 e).trans ((mU _).trans ?_)))
 rw [zB];simp
end SK.k79
namespace SK
open PySem
theorem jS: ∀ (xs ys:List Int),deqs (xs.map D.int) (ys.map D.int)=decide (xs=ys)
 | [],[]=>rfl
 | [],_::_=>by simp [deqs]
 | _::_,[]=>by simp [deqs]
 | x::xs,y::ys=>by
  simp only [List.map_cons,deqs,deq,jS xs ys,List.cons.injEq]
  by_cases h:x=y<;>simp [h]
theorem mV (i:Int): ∀ l:List Int,(insI i l).length=l.length+1
 | []=>rfl
 | j::r=>by
  unfold insI
  split
  ·simp
  ·simp [mV i r]
theorem jT: ∀ l:List Int,(sortI l).length=l.length
 | []=>rfl
 | i::r=>by simp [sortI,mV,jT r]
theorem mW (i x:Int): ∀ l:List Int,x∈insI i l↔x=i∨x∈l
 | []=>by simp [insI]
 | j::r=>by
  unfold insI
  split
  ·simp
  ·simp only [List.mem_cons,mW i x r]
   constructor
   ·rintro(h | h | h)<;>simp [h]
   ·rintro(h | h | h)<;>simp [h]
theorem jU (x:Int): ∀ l:List Int,x∈sortI l↔x∈l
 | []=>Iff.rfl
 | i::r=>by simp only [sortI,mW,jU x r,List.mem_cons]
noncomputable def rngI (m:Nat):List Int:=(List.range m).map fun(i:Nat)=>(i:Int)
theorem rN (m:Nat):rngD m=(rngI m).map D.int:=by simp [rngD,rngI]
theorem nZ {ds:List D} {ns:List Int} (h:dInts ds=some ns):ds=ns.map D.int:=by
 induction ds generalizing ns with
 | nil=>cases h;rfl
 | cons d r ih=>
  cases d<;>try (cases h;done)
  rename_i i
  obtain⟨ms,h1,rfl⟩:=zMd (show(dInts r).map (i:: ·)=some ns from h)
  rw [ih h1];rfl
theorem rO {ns:List Int} (h:ns.length<64):dSorted [.tup (ns.map D.int)]= .ow ((sortI ns).map D.int):=by
 simp [dSorted,items,gF,cE,h]
end SK
namespace SK.k79
open SK PySem
noncomputable def ordB (m:Nat):D→Bool
 | .tup os=>(match dInts os with | some ns=>decide (sortI ns=rngI m) | none=>false)
 | _=>false
noncomputable def isMv (m:Nat):D→Bool
 | .tup [o,t,w]=>ordB m o&&(rowB m 2 t&&wb 2 w)
 | _=>false
theorem uN {m:Nat} {o:D} (h:ordB m o=true):rowB m m o=true:=by
 cases o<;>try (cases h;done)
 rename_i os
 simp only [ordB] at h
 cases e:dInts os with
 | none=>rw [e] at h;cases h
 | some ns=>
  rw [e] at h
  have h:=of_decide_eq_true h
  cases nZ e
  have hl:ns.length=m:=by rw [←jT,h];simp [rngI]
  simp only [rowB,Bool.and_eq_true,decide_eq_true_eq,List.length_map,hl,List.all_eq_true,true_and]
  intro x mx
  obtain⟨i,mi,rfl⟩:=List.mem_map.1 mx
  have:=(jU i ns).2 mi
  rw [h] at this
  obtain⟨k,mk,rfl⟩:=List.mem_map.1 this
  have:=List.mem_range.1 mk
  simp only [wb,Bool.and_eq_true,decide_eq_true_eq];omega
theorem uO {m:Nat} {b:Int} {os:List D} (h:rowB m b (.tup os)=true): ∃ ns:List Int,os=ns.map D.int∧ns.length=m:=by
 simp only [rowB,Bool.and_eq_true,decide_eq_true_eq,List.all_eq_true] at h
 obtain⟨ns,rfl⟩:=allInt fun x mx=>let ⟨k,e,_⟩:=v8 (h.2 x mx);⟨k,e⟩
 exact⟨ns,rfl,by have:=h.1;simp at this;omega⟩
theorem uP {m:Nat} (hm:m≤4) {o:D} (hp:plain o=true):m_is_order [.int m,o]= .ok (.bl (ordB m o)):=by
 have e1:rCall m_is_row [rVar 1,rVar 0,rVar 0] [.sh (.int m), .sh o]= .ok (.bl (rowB m m o)):=(rCall3 rfl rfl rfl).trans (fC m m hp)
 cases hr:rowB m m o with
 | false=>
  refine aG (aJ ((eZ (e1.trans (by rw [hr]))).trans ?_))
  cases ho:ordB m o with
  | false=>rfl
  | true=>rw [uN ho] at hr;cases hr
 | true=>
  cases o<;>try (cases hr;done)
  rename_i os
  obtain⟨ns,rfl,hl⟩:=uO hr
  refine aG (aJ ((dH (e1.trans (by rw [hr]))).trans ?_))
  have e2:rCall dSorted [rLook 1] [.sh (.int m), .sh (.tup (ns.map D.int))]= .ow ((sortI ns).map D.int):=(rCall1 rfl).trans (rO (by omega))
  have e3:rCall dList [iRange (rVar 0)] [.sh (.int m), .sh (.tup (ns.map D.int))]= .ow ((rngI m).map D.int):=by
   refine(rCall1 (aQ (n:=m) rfl (by omega))).trans ?_
   rw [rN];rfl
  refine(mR e2 e3).trans ?_
  have pl: ∀ l:List Int,plain (.lst (l.map D.int))=true:=fun l=>mT l
  have dp:dep (.lst ((rngI m).map D.int))≤60:=by
   have:=dJ (xs:=(rngI m).map D.int) fun x mx=>by obtain⟨i,_,rfl⟩:=List.mem_map.1 mx;rfl
   simp [dep,this]
  rw [fA (e9 (pl _) (pl _) dp)]
  show R.ok (.bl (deqs _ _))=_
  rw [jS]
  simp [ordB,cE]
theorem aCe {m:Nat} (hm:m≤4):wb 5 (.int m)=true:=by simp [wb];omega
theorem fD {m:Nat} (hm:m≤4) {d:D} (hp:plain d=true):m_is_move [.int m,d]= .ok (.bl (isMv m d)):=by
 have hmany:rNot (rCall m_is_many [rVar 0]) [.sh (.int m), .sh d]= .ok (.bl false):=
  (hZ ((rCall1 rfl).trans (aG (aJ ((rCall2 rfl rfl).trans (bX 5 rfl)))))).trans (by rw [aCe hm];rfl)
 cases d with
 | tup xs=>
  have hl:rCmp .NotEq (rCall dLen [rLook 1]) (rK (.int 3)) [.sh (.int m), .sh (.tup xs)]= .ok (.bl (!decide ((xs.length:Int)=3))):=(aV rfl rfl).trans (neInt _ _)
  by_cases l3:xs.length=3
  ·obtain⟨a,b,c,rfl⟩: ∃ a b c,xs=[a,b,c]:=by
    match xs,l3 with
    | [a,b,c],_=>exact⟨a,b,c,rfl⟩
   have hq:plain a=true∧plain b=true∧plain c=true:=by simpa [plain,plains] using hp
   refine aG ((aB ((bA ((cS hmany).trans ((cS rfl).trans (hl.trans rfl)))).trans rfl)).trans (aJ ?_))
   have e1:rCall m_is_order [rVar 0,rIx (rLook 1) (rK (.int 0))] [.sh (.int m), .sh (.tup [a,b,c])]= .ok (.bl (ordB m a)):=(rCall2 rfl rfl).trans (uP hm hq.1)
   have e2:rCall m_is_row [rIx (rLook 1) (rK (.int 1)),rVar 0,rK (.int 2)] [.sh (.int m), .sh (.tup [a,b,c])]= .ok (.bl (rowB m 2 b)):=(rCall3 rfl rfl rfl).trans (fC m 2 hq.2.1)
   have e3:rCall m_is_whole_below [rIx (rLook 1) (rK (.int 2)),rK (.int 2)] [.sh (.int m), .sh (.tup [a,b,c])]= .ok (.bl (wb 2 c)):=(rCall2 rfl rfl).trans (bX 2 hq.2.2)
   cases h1:ordB m a with
   | false=>exact(eZ (e1.trans (by rw [h1]))).trans (by simp [isMv,h1])
   | true=>
    refine(dH (e1.trans (by rw [h1]))).trans ?_
    cases h2:rowB m 2 b with
    | false=>exact(eZ (e2.trans (by rw [h2]))).trans (by simp [isMv,h1,h2])
    | true=>exact(dH (e2.trans (by rw [h2]))).trans (e3.trans (by simp [isMv,h1,h2]))
  ·refine aG (dY ((eY ((cS hmany).trans ((cS rfl).trans (hl.trans ?_)))).trans (aJ ?_)))
   ·have: ¬ (xs.length:Int)=3:=by omega
    simp [this]
   ·match xs,l3 with
    | [],_=>rfl
    | [_],_=>rfl
    | [_,_],_=>rfl
    | _::_::_::_::_,_=>rfl
    | [_,_,_],h=>exact absurd rfl h
 | exc c=>exact absurd hp (by simp [plain])
 | fn c=>exact absurd hp (by simp [plain])
 | _=>exact aG (dY ((eY ((cS hmany).trans (aB9 rfl))).trans rfl))
noncomputable def rowsN (b:Nat):Nat→List (List Nat)
 | 0=>[[]]
 | n+1=>(List.range b).flatMap fun i=>(rowsN b n).map (i:: ·)
noncomputable def nod:List Nat→Bool
 | []=>true
 | i::r=> !r.contains i&&nod r
noncomputable def ords (m:Nat):List (List Nat):=(rowsN m m).filter nod
noncomputable def comp (o o':List Nat):List Nat:=o.map fun i=>o'.getD i 0
noncomputable def inv (m:Nat) (o:List Nat):List Nat:=(List.range m).map fun j=>(o.findIdx? (· ==j)).getD 0
theorem tab1:((List.range 5).all fun m=>(ords m).all fun o=>o.length==m&&(o.all (fun i=>decide (i<m))&&((List.range m).all (fun j=>o.contains j)&&(decide (sortI (o.map fun(i:Nat)=>(i:Int))=rngI m)&&((ords m).contains (inv m o)&&(comp o (inv m o)==List.range m&&(comp (inv m o) o==List.range m&&inv m (inv m o)==o)))))))=true:=by kernel_rfl
structure Ord (m:Nat) (o:List Nat):Prop where
 m4:m≤4
 mem:o∈ords m
section
variable {m:Nat} {o o':List Nat}
theorem Ord.all (h:Ord m o):o.length=m∧(∀ i∈o,i<m)∧(∀ j,j<m→j∈o)∧sortI (o.map fun(i:Nat)=>(i:Int))=rngI m∧inv m o∈ords m∧comp o (inv m o)=List.range m∧comp (inv m o) o=List.range m∧inv m (inv m o)=o:=by
 have:=zAd (zAd tab1 m (zPd (by have:=h.m4;omega))) o h.mem
 simp only [Bool.and_eq_true,beq_iff_eq,List.all_eq_true,decide_eq_true_eq,List.contains_iff_mem,List.mem_range] at this
 exact this
theorem Ord.len (h:Ord m o):o.length=m:=h.all.1
theorem Ord.lt (h:Ord m o) {i:Nat} (hi:i∈o):i<m:=h.all.2.1 i hi
theorem Ord.has (h:Ord m o) {j:Nat} (hj:j<m):j∈o:=h.all.2.2.1 j hj
theorem Ord.sort (h:Ord m o):sortI (o.map fun(i:Nat)=>(i:Int))=rngI m:=h.all.2.2.2.1
theorem Ord.inv (h:Ord m o):Ord m (inv m o):=⟨h.m4,h.all.2.2.2.2.1⟩
theorem Ord.ci (h:Ord m o):k79.comp o (k79.inv m o)=List.range m:=h.all.2.2.2.2.2.1
end
theorem uQ {α:Type} {m:Nat} {l:List α} (d:α) (h:l.length=m):l=(List.range m).map fun i=>l.getD i d:=by
 apply List.ext_getElem?
 intro i
 by_cases hi:i<m
 ·rw [List.getElem?_eq_getElem (by omega)];simp [hi,h]
 ·rw [List.getElem?_eq_none (by omega),List.getElem?_eq_none (by simp;omega)]
theorem zC {α:Type} {m i:Nat} (d:α) (f:Nat→α) (hi:i<m):((List.range m).map f).getD i d=f i:=by simp [hi]
theorem wB {o:List Nat} {t s:List Bool} {i:Nat} (h:i<o.length) (k:i<t.length):(List.zipWith (fun i b=>s.getD i false^^b) o t).getD i false=(s.getD (o.getD i 0) false^^t.getD i false):=by
 simp [List.getElem?_zipWith,h,k]
theorem rP {α:Type} {m:Nat} {l k:List α} (d:α) (hl:l.length=m) (hk:k.length=m) (h: ∀ i,i<m→l.getD i d=k.getD i d):l=k:=by
 rw [uQ d hl,uQ d hk]
 exact List.map_congr_left fun i hi=>h i (zRd hi)
section
variable {m:Nat} {o o' o'':List Nat} {t t' t'':List Bool}
noncomputable def tcomp (o:List Nat) (t t':List Bool):List Bool:=List.zipWith (fun i b=>t'.getD i false^^b) o t
noncomputable def tinv (m:Nat) (o:List Nat) (t:List Bool):List Bool:=(inv m o).map fun i=>t.getD i false
theorem mX:(comp o o').length=o.length:=by simp [comp]
theorem rQ:(inv m o).length=m:=by simp [inv]
theorem jV (h:o.length=m) (k:t.length=m):(tcomp o t t').length=m:=by simp [tcomp,h,k]
theorem mY:(tinv m o t).length=m:=by simp [tinv,rQ]
theorem rR {i:Nat} (h:i<o.length):(comp o o').getD i 0=o'.getD (o.getD i 0) 0:=by simp [comp,h]
theorem mZ {i:Nat} (h:i<o.length) (k:i<t.length):(tcomp o t t').getD i false=(t'.getD (o.getD i 0) false^^t.getD i false):=wB h k
theorem zD {i:Nat} (h:i<m):(tinv m o t).getD i false=t.getD ((inv m o).getD i 0) false:=by simp [tinv,h,rQ]
theorem Ord.at_lt (h:Ord m o) {i:Nat} (hi:i<m):o.getD i 0<m:=by
 have hl:=h.len
 refine h.lt ?_
 have:o.getD i 0=o[i]'(by omega):=by simp [show i<o.length by omega]
 rw [this]
 exact List.getElem_mem _
theorem Ord.ci_at (h:Ord m o) {i:Nat} (hi:i<m):(k79.inv m o).getD (o.getD i 0) 0=i:=by
 rw [←rR (by rw [h.len];exact hi),h.ci];simp [hi]
theorem uR {i:Nat} (hi:i<m):(List.range m).getD i 0=i:=by simp [hi]
theorem wC {i:Nat}:(List.replicate m false).getD i false=false:=by
 by_cases h:i<m<;>simp [h]
theorem rS (h:Ord m o) (lt:t.length=m):tcomp o t (tinv m o t)=List.replicate m false:=by
 refine rP (m:=m) false (jV h.len lt) (by simp) fun i hi=> ?_
 rw [mZ (by rw [h.len];exact hi) (by rw [lt];exact hi),zD (h.at_lt hi),h.ci_at hi,Bool.xor_self,wC]
end
noncomputable def setB (m n:Nat):List Bool:=(List.range m).map fun i=>n.testBit i
theorem rT {m n:Nat}:(setB m n).length=m:=by simp [setB]
theorem rV: ∀ (x:List Bool) (i:Nat),(numB x).testBit i=x.getD i false
 | [],i=>by simp [numB]
 | b::r,0=>by
  simp only [numB,Nat.testBit_zero]
  cases b<;>simp<;>omega
 | b::r,i+1=>by
  have e:numB (b::r) / 2=numB r:=by
   simp only [numB]
   split<;>omega
  rw [Nat.testBit_succ,e,rV r i]
  simp
theorem zE {m:Nat} {x:List Bool} (h:x.length=m):setB m (numB x)=x:=by
 exact(List.map_congr_left fun i _=>rV x i).trans (uQ false h).symm
theorem lA:((List.range 5).all fun m=>(List.range (2 ^ m)).all fun n=>numB (setB m n)==n)=true:=by kernel_rfl
theorem zF {m n:Nat} (hm:m≤4) (hn:n<2 ^ m):numB (setB m n)=n:=by
 have:=zAd (zAd lA m (zPd (by omega))) n (zPd hn)
 simpa using this
noncomputable def ledB (s:List Bool) (o:List Nat) (t:List Bool):List Bool:=List.zipWith (fun i b=>s.getD i false^^b) o t
noncomputable def mvB (m:Nat) (a:List Bool) (o:List Nat) (t:List Bool) (w:Bool):List Bool:=(List.range (2 ^ m)).map fun n=>a.getD (numB (ledB (setB m n) o t)) false^^w
theorem d7 {m:Nat} {s:List Bool} {o:List Nat} {t:List Bool} (h:o.length=m) (k:t.length=m):(ledB s o t).length=m:=by simp [ledB,h,k]
theorem m6 {s:List Bool} {o:List Nat} {t:List Bool} {i:Nat} (h:i<o.length) (k:i<t.length):(ledB s o t).getD i false=(s.getD (o.getD i 0) false^^t.getD i false):=wB h k
theorem zG {m:Nat} {o o':List Nat} {t t' s:List Bool} (h:Ord m o) (h':Ord m o') (lt:t.length=m) (lt':t'.length=m):ledB (ledB s o' t') o t=ledB s (comp o o') (tcomp o t t'):=by
 have l1:(tcomp o t t').length=m:=jV h.len lt
 refine rP (m:=m) false (d7 h.len lt) (d7 (by rw [mX,h.len]) l1) fun i hi=> ?_
 rw [m6 (by rw [h.len];exact hi) (by rw [lt];exact hi),m6 (by rw [h'.len];exact h.at_lt hi) (by rw [lt'];exact h.at_lt hi),m6 (by rw [mX,h.len];exact hi) (by rw [l1];exact hi),rR (by rw [h.len];exact hi),mZ (by rw [h.len];exact hi) (by rw [lt];exact hi),Bool.xor_assoc]
theorem aDo {m:Nat} {a:List Bool} {o o':List Nat} {t t':List Bool} {w w':Bool} (h:Ord m o) (h':Ord m o') (lt:t.length=m) (lt':t'.length=m):mvB m (mvB m a o t w) o' t' w'=mvB m a (comp o o') (tcomp o t t') (w^^w'):=by
 refine List.map_congr_left fun n _=> ?_
 have l:=d7 (s:=setB m n) h'.len lt'
 have hlt:numB (ledB (setB m n) o' t')<2 ^ m:=by have:=k9 (ledB (setB m n) o' t');rw [l] at this;exact this
 have e:(mvB m a o t w).getD (numB (ledB (setB m n) o' t')) false=(a.getD (numB (ledB (setB m (numB (ledB (setB m n) o' t'))) o t)) false^^w):=zC _ _ hlt
 rw [e,zE l,zG h h' lt lt',Bool.xor_assoc]
theorem uS {m:Nat} {a:List Bool} (hm:m≤4) (la:a.length=2 ^ m):mvB m a (List.range m) (List.replicate m false) false=a:=by
 refine(List.map_congr_left fun n hn=> ?_).trans (uQ false la).symm
 have:ledB (setB m n) (List.range m) (List.replicate m false)=setB m n:=by
  refine rP (m:=m) false (d7 (by simp) (by simp)) rT fun i hi=> ?_
  rw [m6 (by simp;exact hi) (by simp;exact hi),uR hi,wC,Bool.xor_false]
 rw [this,zF hm (zRd hn),Bool.xor_false]
theorem m7 {m:Nat} {a:List Bool} {o:List Nat} {t:List Bool} {w:Bool}:(mvB m a o t w).length=2 ^ m:=by simp [mvB]
noncomputable def natD (i:Nat):D:= .int (i:Int)
noncomputable def mvD (o:List Nat) (t:List Bool) (w:Bool):D:= .tup [.tup (o.map natD), .tup (t.map bD),bD w]
theorem cR {α:Type} {L:List α} {h q:α→D} {cs:List Nat} {it e:F} {ρ:Rho} (hi:it ρ= .ok (.lst (L.map h))∨it ρ= .ok (.tup (L.map h))∨it ρ= .ow (L.map h)) (he: ∀ x∈L,e (.sh (h x)::caps cs ρ)= .ok (q x)):rComp 0 cs it none e ρ= .ow (L.map q):=by
 refine iC hi ?_
 rw [cQ (p:=fun _=>true) (q:=q) fun x mx=> ?_]
 ·rw [List.filter_eq_self.2 fun _ _=>rfl]
 ·simp [compF,tgt,he x mx]
theorem m8 {α β:Type} (q:α→β→D): ∀ (A:List α) (B:List β),(A.zip B).map (fun p=>q p.1 p.2)=List.zipWith q A B
 | [],_=>by simp
 | _::_,[]=>by simp
 | x::A,y::B=>by simp only [List.zip_cons_cons,List.map_cons,List.zipWith_cons_cons,m8 q A B]
theorem uT {α β:Type} {ha:α→D} {hb:β→D} {q:α→β→D} {cs:List Nat} {a b e:F} {ρ:Rho} {A:List α} {B:List β} (h1:a ρ= .ok (.tup (A.map ha))) (h2:b ρ= .ok (.tup (B.map hb))) (he: ∀ x y,(x,y)∈A.zip B→e (.sh (ha x):: .sh (hb y)::caps cs ρ)= .ok (q x y)):
  rComp 2 cs (iZip a b) none e ρ= .ow (List.zipWith q A B):=by
 refine iC (ds:=(A.zip B).map fun p=>D.tup [ha p.1,hb p.2]) (.inl ?_) ?_
 ·rw [zA h1 h2,List.zip_map,List.map_map];rfl
 ·rw [cQ (p:=fun _=>true) (q:=fun p=>q p.1 p.2) fun p mp=> ?_]
  ·rw [List.filter_eq_self.2 fun _ _=>rfl,m8]
  ·have:=he p.1 p.2 mp
   simp [compF,tgt,this]
theorem wD (x y:Bool):dBin .BitXor (bD x) (bD y)= .ok (bD (x^^y)):=by cases x<;>cases y<;>rfl
noncomputable def eqDs:List D→List Bool→Bool
 | [],[]=>true
 | .int i::ds,b::bs=>i==b2i b&&eqDs ds bs
 | _,_=>false
theorem m9: ∀ {ds:List D} {bs:List Bool},eqDs ds bs=true→ds=bs.map bD
 | [],[],_=>rfl
 | [],_::_,h=>by simp [eqDs] at h
 | d::ds,[],h=>by cases d<;>simp [eqDs] at h
 | d::ds,b::bs,h=>by
  cases d<;>try (simp [eqDs] at h;done)
  rename_i i
  simp only [eqDs,Bool.and_eq_true,beq_iff_eq] at h
  rw [h.1,m9 h.2];rfl
noncomputable def eqT (r:R) (bs:List Bool):Bool:=match r with
 | .ok (.tup ds)=>eqDs ds bs
 | _=>false
theorem rW {r:R} {bs:List Bool} (h:eqT r bs=true):r= .ok (.tup (bs.map bD)):=by
 unfold eqT at h;split at h
 ·rw [m9 h]
 ·cases h
theorem zH:((List.range 5).all fun m=>(List.range 16).all fun n=>eqT (m_setting_at [.int (m:Nat), .int (n:Nat)]) (setB m n)&&eqT (m_law_setting [.int (m:Nat), .int (n:Nat)]) (setB m n))=true:=by kernel_rfl
theorem rX {m n:Nat} (hm:m≤4) (hn:n<16):m_setting_at [.int (m:Nat), .int (n:Nat)]= .ok (.tup ((setB m n).map bD))∧m_law_setting [.int (m:Nat), .int (n:Nat)]= .ok (.tup ((setB m n).map bD)):=by
 have:=zAd (zAd zH m (zPd (by omega))) n (zPd hn)
 rw [Bool.and_eq_true] at this
 exact⟨rW this.1,rW this.2⟩
theorem n6 {m:Nat} (hm:m≤4):m_how_many_settings [.int (m:Nat)]= .ok (.int ((2 ^ m:Nat):Int)):=by
 have:m=0∨m=1∨m=2∨m=3∨m=4:=by omega
 rcases this with rfl | rfl | rfl | rfl | rfl<;>rfl
theorem aCf {m:Nat} (hm:m≤4):m_all_settings [.int (m:Nat)]= .ow ((List.range (2 ^ m)).map fun n=> .tup ((setB m n).map bD)):=by
 have hp:=jQ hm
 refine rB (q9 ?_)
 exact cR (h:=fun(n:Nat)=>D.int (n:Int)) (.inl (aQ ((rCall1 rfl).trans (n6 hm)) (by omega))) fun n hn=>(rCall2 (x:= .int (m:Nat)) (y:= .int (n:Nat)) rfl rfl).trans (rX hm (by have:=zRd hn;omega)).1
section
variable {m:Nat} {o o':List Nat} {t t':List Bool} {w w':Bool}
theorem rY:o.map natD=(o.map fun(i:Nat)=>(i:Int)).map D.int:=by simp [natD]
theorem rZ (h:Ord m o) (lt:t.length=m):isMv m (mvD o t w)=true:=by
 have h1:ordB m (.tup (o.map natD))=true:=by
  rw [rY]
  simp only [ordB,cE]
  exact decide_eq_true h.sort
 have h2:rowB m 2 (.tup (t.map bD))=true:=by
  simp only [rowB,List.length_map,lt,decide_true,Bool.true_and,List.all_eq_true]
  intro x mx
  obtain⟨b,_,rfl⟩:=List.mem_map.mp mx
  cases b<;>rfl
 have h3:wb 2 (bD w)=true:=by cases w<;>rfl
 show(ordB m (.tup (o.map natD))&&(rowB m 2 (.tup (t.map bD))&&wb 2 (bD w)))=true
 rw [h1,h2,h3];rfl
theorem aCg:plain (mvD o t w)=true∧dep (mvD o t w)≤60:=by
 have h1:plains (o.map natD)=true:=cO.2 fun x mx=>by obtain⟨i,_,rfl⟩:=List.mem_map.1 mx;rfl
 have h2:deps (o.map natD)=0:=dJ fun x mx=>by obtain⟨i,_,rfl⟩:=List.mem_map.1 mx;rfl
 have h3:=f9 (jR t)
 have h4:=dJ fun x mx=>(cP (jR t x mx)).2
 have h5:=cP (v9 w)
 exact⟨by simp [mvD,plain,plains,h1,h3,h5.1],by simp [mvD,dep,deps,h2,h4,h5.2]⟩
theorem wE {d:D} (hm:m≤4) (hp:plain d=true) (h:isMv m d=true):m_check_move [.int (m:Nat),d]= .ok .non:=
 hX (ρ:=[.sh (.int (m:Nat)), .sh d]) ((bA ((hZ ((rCall2 rfl rfl).trans (fD hm hp))).trans (by rw [h];rfl))).trans rfl)
theorem lB {l:List Bool} {i:Nat} (h:i<l.length):dIx (.tup (l.map bD)) (.int (i:Nat))= .ok (bD (l.getD i false)):=yX (by simp [h])
theorem aCh {s:List Bool} (h:Ord m o) (lt:t.length=m) (ls:s.length=m):m_led [.tup (s.map bD),mvD o t w]= .ok (.tup ((ledB s o t).map bD)):=by
 refine aG (aJ ((a8 (uT (ha:=natD) (hb:=bD) (q:=fun i b=>bD (s.getD i false^^b)) (A:=o) (B:=t) rfl rfl fun i b mi=> ?_)).trans ?_))
 ·have hi:i<s.length:=by rw [ls];exact h.lt (List.of_mem_zip mi).1
  exact(aI ((d9 rfl rfl).trans (lB hi)) rfl).trans (wD _ _)
 ·show R.ok (.tup _)=_
  simp [ledB,List.map_zipWith]
theorem nA {a:List Bool} (g:Good m a) (h:Ord m o) (lt:t.length=m):m_moved [sw m a,mvD o t w]= .ok (sw m (mvB m a o t w)):=by
 have hp:=jQ g.1
 have e3:rComp 0 [1] (rCall m_all_settings [rVar 2]) none (rCall m_number_of [rCall m_led [rVar 0,rVar 1]]) [.sh (sw m a), .sh (mvD o t w), .sh (.int (m:Nat)), .no]= .ow ((List.range (2 ^ m)).map fun n=>D.int (numB (ledB (setB m n) o t):Nat)):=
  cR (h:=fun n=>D.tup ((setB m n).map bD)) (.inr (.inr ((rCall1 rfl).trans (aCf g.1)))) fun n _=>(rCall1 ((rCall2 rfl rfl).trans (aCh h lt rT))).trans (rM (by rw [d7 h.len lt];exact g.1))
 have e4:rComp 0 [1,0] (rLook 3) none (rBin .BitXor (rIx (rIx (rLook 2) (rK (.int 1))) (rVar 0)) (rIx (rLook 1) (rK (.int 2)))) [.sh (sw m a), .sh (mvD o t w), .sh (.int (m:Nat)), .sh (.lst ((List.range (2 ^ m)).map fun n=>D.int (numB (ledB (setB m n) o t):Nat)))]= .ow ((List.range (2 ^ m)).map fun n=>bD (a.getD (numB (ledB (setB m n) o t)) false^^w)):=
  cR (h:=fun n=>D.int (numB (ledB (setB m n) o t):Nat)) (.inl rfl) fun n _=>by
   have hn:numB (ledB (setB m n) o t)<a.length:=by
    have:=k9 (ledB (setB m n) o t);rw [d7 h.len lt] at this;rw [g.2];exact this
   exact(aI ((d9 (x:= .tup (a.map bD)) rfl rfl).trans (lB hn)) rfl).trans (wD _ _)
 refine aG ((aB (bJ ((rCall1 rfl).trans (kZ (nY m a) (k8 g))))).trans ((aB (a9 rfl)).trans ((aB (bJ ((rCall2 rfl rfl).trans (wE g.1 aCg.1 (rZ h lt))))).trans ((aB (hV e3)).trans (aJ ?_)))))
 refine(rTup2 (x:= .int (m:Nat)) rfl ((a8 e4).trans rfl)).trans ?_
 simp [sw,mvB]
end
theorem rTup3 {a b c:F} {ρ:Rho} {x y z:D} (h:a ρ= .ok x) (k:b ρ= .ok y) (j:c ρ= .ok z):rTup [a,b,c] ρ= .ok (.tup [x,y,z]):=by simp [rTup,rAll,args,h,k,j,RA.cons,RA.then]
section
variable {m:Nat} {o o':List Nat} {t t':List Bool} {w w':Bool}
theorem uU (h:Ord m o) (lt:t.length=m):m_names_of [mvD o t w]= .ok (.int (m:Nat)):=by
 have hl:rCall dLen [rIx (rLook 0) (rK (.int 0))] [.sh (mvD o t w)]= .ok (.int (m:Nat)):=by
  refine(rCall1 (x:= .tup (o.map natD)) rfl).trans ?_
  simp [dLen,items,h.len]
 exact aG ((aB ((bA ((cS rfl).trans ((cS rfl).trans rfl))).trans rfl)).trans ((aB (bJ ((rCall2 hl rfl).trans (wE h.m4 aCg.1 (rZ h lt))))).trans (aJ hl)))
theorem uV {j:Nat} (hj:j∈o):dIndex [.lst (o.map natD), .int (j:Nat)]= .ok (natD ((o.findIdx? (· ==j)).getD 0)):=by
 have h1:inOk (.int (j:Nat)) (o.map natD)=true:=by
  unfold inOk;rw [List.all_eq_true];intro y my
  obtain⟨i,_,rfl⟩:=List.mem_map.1 my;rfl
 have h2:(o.map natD).findIdx? (fun y=>deq y (.int (j:Nat)))=o.findIdx? (· ==j):=by
  rw [List.findIdx?_map]
  congr 1
  funext i
  show deq (.int (i:Int)) (.int (j:Int))=(i==j)
  rw [Bool.eq_iff_iff,beq_iff_eq]
  simp [deq]
  omega
 show(if inOk (.int (j:Nat)) (o.map natD) then(match(o.map natD).findIdx? (fun y=>deq y (.int (j:Nat))) with | some k=>R.ok (.int (k:Nat)) | none=> .bad) else .bad)=_
 rw [if_pos h1,h2]
 cases e:o.findIdx? (· ==j) with
 | some k=>rfl
 | none=>
  rw [List.findIdx?_eq_none_iff] at e
  have:=e j hj
  simp at this
theorem zI {a b:F} {ρ:Rho} {xs:List D} {y:D} (h:a ρ= .ok (.tup xs)) (k:b ρ= .ok y):rIdx a b ρ=dIndex [.lst xs,y]:=by simp [rIdx,h,k,R.bind]
theorem zJ (h:Ord m o) (lt:t.length=m):m_back [mvD o t w]= .ok (mvD (inv m o) (tinv m o t) w):=by
 have hm:=h.m4
 have e2:rComp 0 [0] (iRange (rVar 1)) none (rIdx (rIx (rLook 1) (rK (.int 0))) (rVar 0)) [.sh (mvD o t w), .sh (.int (m:Nat)), .no]= .ow ((List.range m).map fun j=>natD ((o.findIdx? (· ==j)).getD 0)):=
  cR (h:=fun(i:Nat)=>D.int (i:Int)) (.inl (aQ rfl (by omega))) fun j mj=>(zI (xs:=o.map natD) rfl rfl).trans (uV (h.has (zRd mj)))
 have el:(List.range m).map (fun j=>natD ((o.findIdx? (· ==j)).getD 0))=(inv m o).map natD:=by simp [inv]
 rw [el] at e2
 have e3:rComp 0 [0] (rLook 2) none (rIx (rIx (rLook 1) (rK (.int 1))) (rVar 0)) [.sh (mvD o t w), .sh (.int (m:Nat)), .sh (.lst ((inv m o).map natD))]= .ow ((inv m o).map fun i=>bD (t.getD i false)):=
  cR (h:=natD) (.inl rfl) fun i mi=>(d9 (x:= .tup (t.map bD)) rfl rfl).trans (lB (by rw [lt];exact h.inv.lt mi))
 refine aG ((aB (a9 ((rCall1 rfl).trans (uU h lt)))).trans ((aB (hV e2)).trans (aJ ((rTup3 ((rCall1 (x:= .lst ((inv m o).map natD)) rfl).trans rfl) ((a8 e3).trans rfl) (rfl:_=R.ok (bD w))).trans ?_))))
 simp [mvD,tinv]
end
theorem neSame (x:Int):dCmp .NotEq (.int x) (.int x)= .ok (.bl false):=by rw [neInt];simp
theorem jW: ∀ x y:List Bool,deqs (x.map bD) (y.map bD)=decide (x=y)
 | [],[]=>rfl
 | [],_::_=>by simp [deqs]
 | _::_,[]=>by simp [deqs]
 | b::x,c::y=>by
  simp only [List.map_cons,deqs,jW x y,List.cons.injEq]
  cases b<;>cases c<;>simp [bD,deq,b2i]
noncomputable def rowsB:Nat→List (List Bool)
 | 0=>[[]]
 | m+1=>(rowsB m).flatMap fun r=>[r++[false],r++[true]]
noncomputable def Lm (m:Nat):List (List Nat×List Bool×Bool):=(ords m).flatMap fun o=>(rowsB m).flatMap fun t=>[(o,t,false),(o,t,true)]
noncomputable def qD (q:List Nat×List Bool×Bool):D:=mvD q.1 q.2.1 q.2.2
theorem nB {m:Nat} (hm:m≤3):m_all_moves [.int (m:Nat)]= .ow ((Lm m).map qD):=by
 have:m=0∨m=1∨m=2∨m=3:=by omega
 rcases this with rfl | rfl | rfl | rfl<;>kernel_rfl
theorem aCi:((List.range 4).all fun m=>(Lm m).all (fun q=>(ords m).contains q.1&&q.2.1.length==m)&&(decide ((Lm m).length≤96)&&(Lm m).contains (List.range m,List.replicate m false,false)))=true:=by kernel_rfl
theorem r8 {m:Nat} (hm:m≤3):(∀ q∈Lm m,Ord m q.1∧q.2.1.length=m)∧(Lm m).length≤96:=by
 have:=zAd aCi m (zPd (by omega))
 rw [Bool.and_eq_true,Bool.and_eq_true,decide_eq_true_eq] at this
 refine⟨fun q hq=> ?_,this.2.1⟩
 have z:=zAd this.1 q hq
 rw [Bool.and_eq_true,List.contains_iff_mem,beq_iff_eq] at z
 exact⟨⟨by omega,z.1⟩,z.2⟩
noncomputable def mvq (m:Nat) (a:List Bool) (q:List Nat×List Bool×Bool):List Bool:=mvB m a q.1 q.2.1 q.2.2
section
variable {m:Nat} {a b:List Bool}
theorem iD (hm:m≤3) {q:List Nat×List Bool×Bool}:Good m (mvq m a q):=⟨by omega,m7⟩
theorem wF (hm:m≤3) (g:Good m a) {q:List Nat×List Bool×Bool} (hq:q∈Lm m):m_moved [sw m a,qD q]= .ok (sw m (mvq m a q)):=nA g ((r8 hm).1 q hq).1 ((r8 hm).1 q hq).2
theorem zK (hm:m≤3) (g:Good m a):m_all_led [sw m a]= .ow ((Lm m).map fun q=>sw m (mvq m a q)):=
 rB (q9 (cR (L:=Lm m) (h:=qD) (.inr (.inr ((rCall1 rfl).trans (nB hm)))) fun q mq=>(rCall2 rfl rfl).trans (wF hm g mq)))
theorem aCj (hm:m≤3) (gb:Good m b):dCmp .In (sw m b) (.lst ((Lm m).map fun q=>sw m (mvq m a q)))= .ok (.bl ((Lm m).any fun q=>decide (mvq m a q=b))):=by
 have hin:inOk (sw m b) ((Lm m).map fun q=>sw m (mvq m a q))=true:=by
  unfold inOk;rw [List.all_eq_true];intro y my
  obtain⟨q,_,rfl⟩:=List.mem_map.1 my
  exact e9 (nY m _) (nY m b) (wA m b)
 have hany:(((Lm m).map fun q=>sw m (mvq m a q)).any fun y=>deq y (sw m b))=(Lm m).any fun q=>decide (mvq m a q=b):=by
  rw [List.any_map]
  congr 1
  funext q
  show(decide ((m:Int)=(m:Int))&&(deqs ((mvq m a q).map bD) (b.map bD)&&true))=_
  rw [jW];simp
 simp [dCmp,items,hin,hany]
theorem uW (g:Good m a) (h:Good m b):m_check_alike [sw m a,sw m b]= .ok .non:=by
 have e3:rCmp .NotEq (rIx (rLook 0) (rK (.int 0))) (rIx (rLook 1) (rK (.int 0))) [.sh (sw m a), .sh (sw m b)]= .ok (.bl false):=
  (aV (x:= .int (m:Nat)) (y:= .int (m:Nat)) rfl rfl).trans (neSame _)
 exact hX ((aB (bJ ((rCall1 rfl).trans (kZ (nY m a) (k8 g))))).trans ((aB (bJ ((rCall1 rfl).trans (kZ (nY m b) (k8 h))))).trans ((bA e3).trans rfl)))
theorem sA (hm:m≤3):m_check_listed [.int (m:Nat)]= .ok .non:=by
 have:m=0∨m=1∨m=2∨m=3:=by omega
 rcases this with rfl | rfl | rfl | rfl<;>kernel_rfl
theorem aCk (hm:m≤3) (g:Good m a) (h:Good m b):m_check_two [sw m a,sw m b]= .ok .non:=
 hX (ρ:=[.sh (sw m a), .sh (sw m b)]) ((aB (bJ ((rCall2 rfl rfl).trans (uW g h)))).trans (bJ ((rCall1 (x:= .int (m:Nat)) rfl).trans (sA hm))))
end
noncomputable def clB:Nat→Nat
 | 0=>32
 | 1=>66592
 | 2=>193767052067035589706784
 | _=>14079986334694979857572052567166849365551613918151045304727089385161922612959319810008125895884587869799971620043152430982512176203574519448028618446987982167151012748134792990643715123135024130391539997928950519819025535268942987600567835360709946968511692161890831902355382721197069470460963522343814611387074952046989384890209662981532787742051018237818589670719231154656037733205024
noncomputable def npB:Nat→Nat
 | 0=>0
 | 1=>32
 | 2=>1148960
 | _=>1588524986827093649303724460064
noncomputable def cl (m n:Nat):Nat:=(clB m >>> (5 * n)) &&& 31
noncomputable def np (m c:Nat):Nat:=(npB m >>> (5 * c)) &&& 31
noncomputable def TA:Nat→List (List R)
 | 0=>[[.ok (.int 0), .ow [.int 1], .ok (.int 0), .ok (.bl true), .ok (.int 0), .ok (.tup [.int 0, .tup []]), .ow [], .ok (.tup [.int 0, .tup [.int 0]])]]
 | 1=>[[.ok (.int 0), .ow [.int 4, .int 0], .ok (.int 0), .ok (.bl false), .ok (.int 0), .ok (.tup [.int 0, .tup [.int 0]]), .ow [.int 0], .ok (.tup [.int 1, .tup [.int 0, .int 0]])],
  [.ok (.int 1), .ow [.int 0, .int 4], .ok (.int 0), .ok (.bl false), .ok (.int 1), .ok (.tup [.int 1, .tup [.int 2]]), .ow [.int 2], .ok (.tup [.int 1, .tup [.int 0, .int 1]])]]
 | 2=>[[.ok (.int 0), .ow [.int 16, .int 0, .int 0], .ok (.int 0), .ok (.bl false), .ok (.int 0), .ok (.tup [.int 0, .tup [.int 0, .int 0]]), .ow [.int 0, .int 0], .ok (.tup [.int 2, .tup [.int 0, .int 0, .int 0, .int 0]])],
  [.ok (.int 2), .ow [.int 4, .int 8, .int 4], .ok (.int 1), .ok (.bl true), .ok (.int 2), .ok (.tup [.int 1, .tup [.int 2, .int 2]]), .ow [.int 2, .int 2], .ok (.tup [.int 2, .tup [.int 0, .int 0, .int 0, .int 1]])],
  [.ok (.int 1), .ow [.int 0, .int 16, .int 0], .ok (.int 0), .ok (.bl false), .ok (.int 1), .ok (.tup [.int 2, .tup [.int 0, .int 4]]), .ow [.int 0, .int 4], .ok (.tup [.int 2, .tup [.int 0, .int 0, .int 1, .int 1]])],
  [.ok (.int 1), .ow [.int 0, .int 0, .int 16], .ok (.int 0), .ok (.bl false), .ok (.int 2), .ok (.tup [.int 2, .tup [.int 4, .int 4]]), .ow [.int 4, .int 4], .ok (.tup [.int 2, .tup [.int 0, .int 1, .int 1, .int 0]])]]
 | _=>[[.ok (.int 0), .ow [.int 64, .int 0, .int 0, .int 0], .ok (.int 0), .ok (.bl false), .ok (.int 0), .ok (.tup [.int 0, .tup [.int 0, .int 0, .int 0]]), .ow [.int 0, .int 0, .int 0], .ok (.non)],
  [.ok (.int 3), .ow [.int 36, .int 12, .int 12, .int 4], .ok (.int 1), .ok (.bl false), .ok (.int 3), .ok (.tup [.int 1, .tup [.int 2, .int 2, .int 2]]), .ow [.int 2, .int 2, .int 2], .ok (.non)],
  [.ok (.int 2), .ow [.int 16, .int 32, .int 16, .int 0], .ok (.int 2), .ok (.bl false), .ok (.int 2), .ok (.tup [.int 2, .tup [.int 0, .int 4, .int 4]]), .ow [.int 0, .int 4, .int 4], .ok (.non)],
  [.ok (.int 2), .ow [.int 16, .int 16, .int 16, .int 16], .ok (.int 2), .ok (.bl false), .ok (.int 3), .ok (.tup [.int 2, .tup [.int 4, .int 4, .int 4]]), .ow [.int 4, .int 4, .int 4], .ok (.non)],
  [.ok (.int 3), .ow [.int 4, .int 44, .int 12, .int 4], .ok (.int 1), .ok (.bl false), .ok (.int 3), .ok (.tup [.int 3, .tup [.int 2, .int 2, .int 6]]), .ow [.int 2, .int 2, .int 6], .ok (.non)],
  [.ok (.int 1), .ow [.int 0, .int 64, .int 0, .int 0], .ok (.int 0), .ok (.bl false), .ok (.int 1), .ok (.tup [.int 4, .tup [.int 0, .int 0, .int 8]]), .ow [.int 0, .int 0, .int 8], .ok (.non)],
  [.ok (.int 3), .ow [.int 4, .int 12, .int 12, .int 36], .ok (.int 1), .ok (.bl false), .ok (.int 3), .ok (.tup [.int 3, .tup [.int 6, .int 6, .int 6]]), .ow [.int 6, .int 6, .int 6], .ok (.non)],
  [.ok (.int 2), .ow [.int 0, .int 48, .int 0, .int 16], .ok (.int 2), .ok (.bl false), .ok (.int 3), .ok (.tup [.int 4, .tup [.int 4, .int 4, .int 4]]), .ow [.int 4, .int 4, .int 4], .ok (.non)],
  [.ok (.int 2), .ow [.int 16, .int 0, .int 48, .int 0], .ok (.int 2), .ok (.bl false), .ok (.int 3), .ok (.tup [.int 2, .tup [.int 4, .int 4, .int 4]]), .ow [.int 4, .int 4, .int 4], .ok (.non)],
  [.ok (.int 3), .ow [.int 4, .int 12, .int 44, .int 4], .ok (.int 1), .ok (.bl false), .ok (.int 3), .ok (.tup [.int 3, .tup [.int 2, .int 6, .int 6]]), .ow [.int 2, .int 6, .int 6], .ok (.non)],
  [.ok (.int 2), .ow [.int 0, .int 32, .int 32, .int 0], .ok (.int 2), .ok (.bl false), .ok (.int 3), .ok (.tup [.int 4, .tup [.int 4, .int 4, .int 4]]), .ow [.int 4, .int 4, .int 4], .ok (.non)],
  [.ok (.int 2), .ow [.int 0, .int 16, .int 32, .int 16], .ok (.int 2), .ok (.bl false), .ok (.int 3), .ok (.tup [.int 4, .tup [.int 4, .int 4, .int 8]]), .ow [.int 4, .int 4, .int 8], .ok (.non)],
  [.ok (.int 1), .ow [.int 0, .int 0, .int 64, .int 0], .ok (.int 0), .ok (.bl false), .ok (.int 2), .ok (.tup [.int 4, .tup [.int 0, .int 8, .int 8]]), .ow [.int 0, .int 8, .int 8], .ok (.non)],
  [.ok (.int 1), .ow [.int 0, .int 0, .int 0, .int 64], .ok (.int 0), .ok (.bl false), .ok (.int 3), .ok (.tup [.int 4, .tup [.int 8, .int 8, .int 8]]), .ow [.int 8, .int 8, .int 8], .ok (.non)]]
noncomputable def TB:Nat→List (List R)
 | 0=>[[.ok (.int 0), .ok (.int 0), .ok (.int 0), .ok .non],
  [.ok (.int 1), .ok (.int 1), .ok (.int 1), .ok .non]]
 | 1=>[[.ok (.int 0), .ok (.int 0), .ok (.int 0), .ok .non],
  [.ok (.int 1), .ok (.int 1), .ok (.int 1), .ok .non],
  [.ok (.int 2), .ok (.int 1), .ok (.int 1), .ok .non]]
 | 2=>[[.ok (.int 0), .ok (.int 0), .ok (.int 0), .ok .non],
  [.ok (.int 1), .ok (.int 1), .ok (.int 1), .ok .non],
  [.ok (.int 2), .ok (.int 1), .ok (.int 1), .ok .non],
  [.ok (.int 2), .ok (.int 2), .ok (.int 2), .ok .non],
  [.ok (.int 3), .ok (.int 2), .ok (.int 2), .ok .non],
  [.ok (.int 4), .ok (.int 1), .ok (.int 1), .ok .non]]
 | _=>[[.ok (.int 0), .ok (.int 0), .ok (.int 0), .ok .non],
  [.ok (.int 1), .ok (.int 1), .ok (.int 1), .ok .non],
  [.ok (.int 2), .ok (.int 1), .ok (.int 1), .ok .non],
  [.ok (.int 2), .ok (.int 2), .ok (.int 2), .ok .non],
  [.ok (.int 3), .ok (.int 2), .ok (.int 2), .ok .non],
  [.ok (.int 4), .ok (.int 1), .ok (.int 1), .ok .non],
  [.ok (.int 3), .ok (.int 3), .ok (.int 3), .ok .non],
  [.ok (.int 4), .ok (.int 3), .ok (.int 3), .ok .non],
  [.ok (.int 2), .ok (.int 2), .ok (.int 2), .ok .non],
  [.ok (.int 3), .ok (.int 2), .ok (.int 2), .ok .non],
  [.ok (.int 4), .ok (.int 3), .ok (.int 2), .ok .non],
  [.ok (.int 4), .ok (.int 3), .ok (.int 3), .ok .non],
  [.ok (.int 5), .ok (.int 2), .ok (.int 2), .ok .non],
  [.ok (.int 4), .ok (.int 2), .ok (.int 2), .ok .non],
  [.ok (.int 5), .ok (.int 4), .ok (.int 2), .ok .non],
  [.ok (.int 6), .ok (.int 2), .ok (.int 2), .ok .non],
  [.ok (.int 4), .ok (.int 4), .ok (.int 4), .ok .non],
  [.ok (.int 5), .ok (.int 4), .ok (.int 4), .ok .non],
  [.ok (.int 6), .ok (.int 3), .ok (.int 3), .ok .non],
  [.ok (.int 6), .ok (.int 6), .ok (.int 0), .ok .non],
  [.ok (.int 7), .ok (.int 3), .ok (.int 3), .ok .non],
  [.ok (.int 8), .ok (.int 1), .ok (.int 1), .ok .non]]
noncomputable def rPl:R→Bool
 | .ok d=>plain d&&decide (dep d≤60)
 | .ow xs=>plain (.lst xs)&&decide (dep (.lst xs)≤60)
 | _=>false
noncomputable def mesA (m:Nat) (a:List Bool):List R:=[m_degree [sw m a],m_by_weights [sw m a],m_how_far [sw m a],m_is_flattest [sw m a],rCall dLen [rCall m_needed [rVar 0]] [.sh (sw m a)],m_marks [sw m a],rCall dSorted [rComp 0 [0] (iRange (rK (.int (m:Nat)))) none (rCall m_how_much [rVar 1,rVar 0])] [.sh (sw m a)],if m<3 then m_least_form [sw m a] else .ok .non]
noncomputable def mesB (m:Nat) (a:List Bool):List R:=[rCall dLen [rCall m_ones [rVar 0]] [.sh (sw m a)],rCall dLen [rCall m_primes [rVar 0]] [.sh (sw m a)],rCall dLen [rCall m_essentials [rVar 0]] [.sh (sw m a)],bif rPl (m_primes [sw m a]) then .ok .non else .bad]
noncomputable def dueA (m:Nat) (a:List Bool):List R:=(TA m).getD (np m (cl m (numB a))) []
noncomputable def dueB (m:Nat) (a:List Bool):List R:=(TB m).getD (cl m (numB a)) []
theorem aW: ∀ {m:Nat} {t:List Bool},t.length=m→t∈rowsB m
 | 0,t,h=>by simp at h;simp [h,rowsB]
 | m+1,t,h=>by
  rcases List.eq_nil_or_concat t with rfl | ⟨u,x,rfl⟩
  ·simp at h
  ·simp only [rowsB,List.mem_flatMap]
   refine⟨u,aW (by simpa using h), ?_⟩
   cases x<;>simp
theorem tA0:(rowsB 1).map (mesA 0)=(rowsB 1).map (dueA 0):=by kernel_rfl
theorem tA1:(rowsB 2).map (mesA 1)=(rowsB 2).map (dueA 1):=by kernel_rfl
theorem tA2:(rowsB 4).map (mesA 2)=(rowsB 4).map (dueA 2):=by kernel_rfl
theorem aDp:(rowsB 4).map (fun s=>mesA 3 ([false,false,false,false]++s))=(rowsB 4).map (fun s=>dueA 3 ([false,false,false,false]++s)):=by kernel_rfl
theorem aDq:(rowsB 4).map (fun s=>mesA 3 ([true,false,false,false]++s))=(rowsB 4).map (fun s=>dueA 3 ([true,false,false,false]++s)):=by kernel_rfl
theorem aDr:(rowsB 4).map (fun s=>mesA 3 ([false,true,false,false]++s))=(rowsB 4).map (fun s=>dueA 3 ([false,true,false,false]++s)):=by kernel_rfl
theorem aDs:(rowsB 4).map (fun s=>mesA 3 ([true,true,false,false]++s))=(rowsB 4).map (fun s=>dueA 3 ([true,true,false,false]++s)):=by kernel_rfl
theorem aDt:(rowsB 4).map (fun s=>mesA 3 ([false,false,true,false]++s))=(rowsB 4).map (fun s=>dueA 3 ([false,false,true,false]++s)):=by kernel_rfl
theorem aDu:(rowsB 4).map (fun s=>mesA 3 ([true,false,true,false]++s))=(rowsB 4).map (fun s=>dueA 3 ([true,false,true,false]++s)):=by kernel_rfl
theorem aDv:(rowsB 4).map (fun s=>mesA 3 ([false,true,true,false]++s))=(rowsB 4).map (fun s=>dueA 3 ([false,true,true,false]++s)):=by kernel_rfl
theorem aDw:(rowsB 4).map (fun s=>mesA 3 ([true,true,true,false]++s))=(rowsB 4).map (fun s=>dueA 3 ([true,true,true,false]++s)):=by kernel_rfl
theorem aDx:(rowsB 4).map (fun s=>mesA 3 ([false,false,false,true]++s))=(rowsB 4).map (fun s=>dueA 3 ([false,false,false,true]++s)):=by kernel_rfl
theorem aDy:(rowsB 4).map (fun s=>mesA 3 ([true,false,false,true]++s))=(rowsB 4).map (fun s=>dueA 3 ([true,false,false,true]++s)):=by kernel_rfl
theorem aCl:(rowsB 4).map (fun s=>mesA 3 ([false,true,false,true]++s))=(rowsB 4).map (fun s=>dueA 3 ([false,true,false,true]++s)):=by kernel_rfl
theorem aCm:(rowsB 4).map (fun s=>mesA 3 ([true,true,false,true]++s))=(rowsB 4).map (fun s=>dueA 3 ([true,true,false,true]++s)):=by kernel_rfl
theorem aCn:(rowsB 4).map (fun s=>mesA 3 ([false,false,true,true]++s))=(rowsB 4).map (fun s=>dueA 3 ([false,false,true,true]++s)):=by kernel_rfl
theorem aCo:(rowsB 4).map (fun s=>mesA 3 ([true,false,true,true]++s))=(rowsB 4).map (fun s=>dueA 3 ([true,false,true,true]++s)):=by kernel_rfl
theorem aCp:(rowsB 4).map (fun s=>mesA 3 ([false,true,true,true]++s))=(rowsB 4).map (fun s=>dueA 3 ([false,true,true,true]++s)):=by kernel_rfl
theorem aCq:(rowsB 4).map (fun s=>mesA 3 ([true,true,true,true]++s))=(rowsB 4).map (fun s=>dueA 3 ([true,true,true,true]++s)):=by kernel_rfl
theorem tB0:(rowsB 1).map (mesB 0)=(rowsB 1).map (dueB 0):=by kernel_rfl
theorem tB1:(rowsB 2).map (mesB 1)=(rowsB 2).map (dueB 1):=by kernel_rfl
theorem tB2:(rowsB 4).map (mesB 2)=(rowsB 4).map (dueB 2):=by kernel_rfl
theorem aDz:(rowsB 4).map (fun s=>mesB 3 ([false,false,false,false]++s))=(rowsB 4).map (fun s=>dueB 3 ([false,false,false,false]++s)):=by kernel_rfl
theorem aD0:(rowsB 4).map (fun s=>mesB 3 ([true,false,false,false]++s))=(rowsB 4).map (fun s=>dueB 3 ([true,false,false,false]++s)):=by kernel_rfl
theorem aD1:(rowsB 4).map (fun s=>mesB 3 ([false,true,false,false]++s))=(rowsB 4).map (fun s=>dueB 3 ([false,true,false,false]++s)):=by kernel_rfl
theorem aD2:(rowsB 4).map (fun s=>mesB 3 ([true,true,false,false]++s))=(rowsB 4).map (fun s=>dueB 3 ([true,true,false,false]++s)):=by kernel_rfl
theorem aD3:(rowsB 4).map (fun s=>mesB 3 ([false,false,true,false]++s))=(rowsB 4).map (fun s=>dueB 3 ([false,false,true,false]++s)):=by kernel_rfl
theorem aD4:(rowsB 4).map (fun s=>mesB 3 ([true,false,true,false]++s))=(rowsB 4).map (fun s=>dueB 3 ([true,false,true,false]++s)):=by kernel_rfl
theorem aD5:(rowsB 4).map (fun s=>mesB 3 ([false,true,true,false]++s))=(rowsB 4).map (fun s=>dueB 3 ([false,true,true,false]++s)):=by kernel_rfl
theorem aD6:(rowsB 4).map (fun s=>mesB 3 ([true,true,true,false]++s))=(rowsB 4).map (fun s=>dueB 3 ([true,true,true,false]++s)):=by kernel_rfl
theorem aD7:(rowsB 4).map (fun s=>mesB 3 ([false,false,false,true]++s))=(rowsB 4).map (fun s=>dueB 3 ([false,false,false,true]++s)):=by kernel_rfl
theorem aD8:(rowsB 4).map (fun s=>mesB 3 ([true,false,false,true]++s))=(rowsB 4).map (fun s=>dueB 3 ([true,false,false,true]++s)):=by kernel_rfl
theorem aCr:(rowsB 4).map (fun s=>mesB 3 ([false,true,false,true]++s))=(rowsB 4).map (fun s=>dueB 3 ([false,true,false,true]++s)):=by kernel_rfl
theorem aCs:(rowsB 4).map (fun s=>mesB 3 ([true,true,false,true]++s))=(rowsB 4).map (fun s=>dueB 3 ([true,true,false,true]++s)):=by kernel_rfl
theorem aCt:(rowsB 4).map (fun s=>mesB 3 ([false,false,true,true]++s))=(rowsB 4).map (fun s=>dueB 3 ([false,false,true,true]++s)):=by kernel_rfl
theorem aCu:(rowsB 4).map (fun s=>mesB 3 ([true,false,true,true]++s))=(rowsB 4).map (fun s=>dueB 3 ([true,false,true,true]++s)):=by kernel_rfl
theorem aCv:(rowsB 4).map (fun s=>mesB 3 ([false,true,true,true]++s))=(rowsB 4).map (fun s=>dueB 3 ([false,true,true,true]++s)):=by kernel_rfl
theorem aCw:(rowsB 4).map (fun s=>mesB 3 ([true,true,true,true]++s))=(rowsB 4).map (fun s=>dueB 3 ([true,true,true,true]++s)):=by kernel_rfl
noncomputable def pos (m:Nat) (o:List Nat) (t:List Bool):List Nat:=(List.range (2 ^ m)).map fun n=>numB (ledB (setB m n) o t)
noncomputable def chk (m:Nat):Bool:=(ords m).all fun o=>(rowsB m).all fun t=>(rowsB (2 ^ m)).all fun a=>Nat.beq (cl m (numB ((pos m o t).map fun i=>a.getD i false))) (cl m (numB a))
noncomputable def chn (m:Nat):Bool:=(rowsB (2 ^ m)).all fun a=>Nat.beq (np m (cl m (numB (a.map not)))) (np m (cl m (numB a)))
theorem k0:chk 0=true:=by kernel_rfl
theorem k1:chk 1=true:=by kernel_rfl
theorem k2:chk 2=true:=by kernel_rfl
theorem k3:chk 3=true:=by kernel_rfl
theorem kn:((List.range 4).all chn)=true:=by kernel_rfl
theorem aX {a b:F} {ρ:Rho} {r:R} (h:a ρ=r) (k:b ρ=r) (p:rPl r=true):rCmp .NotEq a b ρ= .ok (.bl false):=by
 cases r with
 | ok d=>
  have p:plain d=true∧dep d≤60:=by simpa [rPl] using p
  rw [aV h k,kX (e9 p.1 p.1 p.2),iB _ p.1];rfl
 | ow xs=>
  have p:plain (.lst xs)=true∧dep (.lst xs)≤60:=by simpa [rPl] using p
  rw [mR h k,kX (e9 p.1 p.1 p.2),iB _ p.1];rfl
 | ex c=>cases p
 | bad=>cases p
theorem uX {op:CmpOp} {a b:F} {ρ:Rho} {x:D} {y:List D} (h:a ρ= .ok x) (k:b ρ= .ow y):rCmp op a b ρ=dCmp op x (.lst y):=by simp [rCmp,h,k,R.bind]
theorem bK {f g:Fn} {a:F} {ρ:Rho} {x:D} (h:a ρ= .ok x):rCall f [rCall g [a]] ρ=rCall f [rCall g [rVar 0]] [.sh x]:=by simp [rCall,rAll,args,h,rVar,RA.cons,RA.then]
theorem jX {m:Nat} (hm:m≤3) {a:List Bool} (la:a.length=2 ^ m):mesA m a=dueA m a∧mesB m a=dueB m a:=by
 rcases(show m=0∨m=1∨m=2∨m=3 by omega) with rfl | rfl | rfl | rfl
 ·exact⟨List.map_inj_left.1 tA0 a (aW la),List.map_inj_left.1 tB0 a (aW la)⟩
 ·exact⟨List.map_inj_left.1 tA1 a (aW la),List.map_inj_left.1 tB1 a (aW la)⟩
 ·exact⟨List.map_inj_left.1 tA2 a (aW la),List.map_inj_left.1 tB2 a (aW la)⟩
 ·match a,la with
  | [b0,b1,b2,b3,b4,b5,b6,b7],_=>
   have h:[b4,b5,b6,b7]∈rowsB 4:=aW rfl
   cases b0<;>cases b1<;>cases b2<;>cases b3
   ·exact⟨List.map_inj_left.1 aDp _ h,List.map_inj_left.1 aDz _ h⟩
   ·exact⟨List.map_inj_left.1 aDx _ h,List.map_inj_left.1 aD7 _ h⟩
   ·exact⟨List.map_inj_left.1 aDt _ h,List.map_inj_left.1 aD3 _ h⟩
   ·exact⟨List.map_inj_left.1 aCn _ h,List.map_inj_left.1 aCt _ h⟩
   ·exact⟨List.map_inj_left.1 aDr _ h,List.map_inj_left.1 aD1 _ h⟩
   ·exact⟨List.map_inj_left.1 aCl _ h,List.map_inj_left.1 aCr _ h⟩
   ·exact⟨List.map_inj_left.1 aDv _ h,List.map_inj_left.1 aD5 _ h⟩
   ·exact⟨List.map_inj_left.1 aCp _ h,List.map_inj_left.1 aCv _ h⟩
   ·exact⟨List.map_inj_left.1 aDq _ h,List.map_inj_left.1 aD0 _ h⟩
   ·exact⟨List.map_inj_left.1 aDy _ h,List.map_inj_left.1 aD8 _ h⟩
   ·exact⟨List.map_inj_left.1 aDu _ h,List.map_inj_left.1 aD4 _ h⟩
   ·exact⟨List.map_inj_left.1 aCo _ h,List.map_inj_left.1 aCu _ h⟩
   ·exact⟨List.map_inj_left.1 aDs _ h,List.map_inj_left.1 aD2 _ h⟩
   ·exact⟨List.map_inj_left.1 aCm _ h,List.map_inj_left.1 aCs _ h⟩
   ·exact⟨List.map_inj_left.1 aDw _ h,List.map_inj_left.1 aD6 _ h⟩
   ·exact⟨List.map_inj_left.1 aCq _ h,List.map_inj_left.1 aCw _ h⟩
theorem T_pl:((List.range 4).all fun m=>(TA m).all (fun r=>r.all rPl)&&(TB m).all (fun r=>r.all rPl))=true:=by kernel_rfl
theorem lC {α:Type}: ∀ {L:List (List α)} {i:Nat},L.getD i []=[]∨L.getD i []∈L
 | [],i=> .inl (by simp)
 | x::L,0=> .inr (by simp)
 | x::L,i+1=>by
  rcases lC (L:=L) (i:=i) with h | h
  ·exact .inl (by simpa using h)
  ·exact .inr (by simp at h ⊢;exact .inr h)
theorem aCx {m:Nat} (hm:m≤3) {a:List Bool} (la:a.length=2 ^ m):(∀ r∈mesA m a,rPl r=true)∧(∀ r∈mesB m a,rPl r=true):=by
 have t:=zAd T_pl m (zPd (by omega))
 rw [Bool.and_eq_true,List.all_eq_true,List.all_eq_true] at t
 obtain⟨h1,h2⟩:=jX hm la
 constructor
 ·rcases lC (L:=TA m) (i:=np m (cl m (numB a))) with h | h
  ·have:mesA m a=[]:=h1.trans h
   cases this
  ·have:=t.1 _ h
   rw [List.all_eq_true] at this
   rw [h1];exact this
 ·rcases lC (L:=TB m) (i:=cl m (numB a)) with h | h
  ·have:mesB m a=[]:=h2.trans h
   cases this
  ·have:=t.2 _ h
   rw [List.all_eq_true] at this
   rw [h2];exact this
theorem aCy {m:Nat} (hm:m≤3):chk m=true:=by
 rcases(show m=0∨m=1∨m=2∨m=3 by omega) with rfl | rfl | rfl | rfl
 ·exact k0
 ·exact k1
 ·exact k2
 ·exact k3
section
variable {m:Nat} {a:List Bool}
theorem cl_f (hm:m≤3) (la:a.length=2 ^ m) {o:List Nat} {t:List Bool} (ho:Ord m o) (lt:t.length=m):cl m (numB (mvB m a o t false))=cl m (numB a):=by
 have h:=zAd (zAd (zAd (aCy hm) o ho.mem) t (aW lt)) a (aW la)
 have e:mvB m a o t false=(pos m o t).map fun i=>a.getD i false:=by
  simp [mvB,pos,Function.comp_def]
 rw [e]
 exact Nat.eq_of_beq_eq_true h
theorem np_t (hm:m≤3) (la:a.length=2 ^ m) {o:List Nat} {t:List Bool} (ho:Ord m o) (lt:t.length=m):np m (cl m (numB (mvB m a o t true)))=np m (cl m (numB a)):=by
 have e:mvB m a o t true=(mvB m a o t false).map not:=by
  simp [mvB,Function.comp_def]
 have h:=zAd (zAd kn m (zPd (by omega))) (mvB m a o t false) (aW m7)
 rw [e,Nat.eq_of_beq_eq_true h,cl_f hm la ho lt]
theorem keepA (hm:m≤3) (la:a.length=2 ^ m) {q:List Nat×List Bool×Bool} (hq:q∈Lm m):mesA m (mvq m a q)=mesA m a:=by
 obtain⟨h1,h2⟩:=(r8 hm).1 q hq
 rw [(jX hm (a:=mvq m a q) m7).1,(jX hm la).1]
 obtain⟨o,t,w⟩:=q
 unfold dueA mvq
 cases w with
 | true=>rw [np_t hm la h1 h2]
 | false=>rw [cl_f hm la h1 h2]
theorem keepB (hm:m≤3) (la:a.length=2 ^ m) {q:List Nat×List Bool×Bool} (hq:q∈Lm m) (hw:q.2.2=false):mesB m (mvq m a q)=mesB m a:=by
 obtain⟨h1,h2⟩:=(r8 hm).1 q hq
 rw [(jX hm (a:=mvq m a q) m7).2,(jX hm la).2]
 obtain⟨o,t,w⟩:=q
 subst hw
 unfold dueB mvq
 rw [cl_f hm la h1 h2]
theorem aCz (hm:m≤3) (g:Good m a) {q:List Nat×List Bool×Bool} (hq:q∈Lm m) {ρ:Rho} (h5:rVar 5 ρ= .ok (qD q)) (h6:rVar 6 ρ= .ok (sw m (mvq m a q))):rCall m_moved [rVar 6,rCall m_back [rVar 5]] ρ= .ok (sw m a):=by
 obtain⟨h1,h2⟩:=(r8 hm).1 q hq
 obtain⟨o,t,w⟩:=q
 refine(rCall2 h6 ((rCall1 h5).trans (zJ h1 h2))).trans ((nA (iD hm) h1.inv mY).trans ?_)
 show R.ok (sw m (mvB m (mvB m a o t w) (inv m o) (tinv m o t) w))=_
 rw [aDo h1 h1.inv h2 mY,h1.ci,rS h1 h2,Bool.xor_self,uS (by omega) g.2]
theorem uY:(Lm 0).map (fun q=>rCall m_behind [rVar 0,rCall m_back [rVar 0]] [.sh (qD q)])=(Lm 0).map fun _=>m_still [.int ((0:Nat):Int)]:=by kernel_rfl
theorem uZ:(Lm 1).map (fun q=>rCall m_behind [rVar 0,rCall m_back [rVar 0]] [.sh (qD q)])=(Lm 1).map fun _=>m_still [.int ((1:Nat):Int)]:=by kernel_rfl
theorem u5:(Lm 2).map (fun q=>rCall m_behind [rVar 0,rCall m_back [rVar 0]] [.sh (qD q)])=(Lm 2).map fun _=>m_still [.int ((2:Nat):Int)]:=by kernel_rfl
theorem u6:(Lm 3).map (fun q=>rCall m_behind [rVar 0,rCall m_back [rVar 0]] [.sh (qD q)])=(Lm 3).map fun _=>m_still [.int ((3:Nat):Int)]:=by kernel_rfl
theorem u7:((List.range 4).all fun m=>rPl (m_still [.int (m:Nat)]))=true:=by kernel_rfl
theorem aC0 (hm:m≤3) {q:List Nat×List Bool×Bool} (hq:q∈Lm m):rCall m_behind [rVar 0,rCall m_back [rVar 0]] [.sh (qD q)]=m_still [.int (m:Nat)]:=by
 rcases(show m=0∨m=1∨m=2∨m=3 by omega) with rfl | rfl | rfl | rfl
 ·exact List.map_inj_left.1 uY q hq
 ·exact List.map_inj_left.1 uZ q hq
 ·exact List.map_inj_left.1 u5 q hq
 ·exact List.map_inj_left.1 u6 q hq
theorem aD9 (hm:m≤3) (g:Good m a) {q:List Nat×List Bool×Bool} (hq:q∈Lm m):m_are_kin [sw m a,sw m (mvq m a q)]= .ok (.bl true):=by
 refine aG ((aB (bJ ((rCall2 rfl rfl).trans (aCk hm g (iD hm))))).trans (aJ ((uX rfl ((rCall1 rfl).trans (zK hm g))).trans ((aCj hm (iD hm)).trans ?_))))
 rw [List.any_eq_true.mpr ⟨q,hq,decide_eq_true rfl⟩]
theorem sB {a:F} {ρ:Rho} {x:D} (h:a ρ= .ok x):rCall m_behind [a,rCall m_back [a]] ρ=rCall m_behind [rVar 0,rCall m_back [rVar 0]] [.sh x]:=by
 simp [rCall,rAll,args,h,rVar,RA.cons,RA.then]
end
noncomputable def rest:FS:=(sSeq (sIf (rOr (rCmp .NotEq (rCall m_degree [rVar 6]) (rCall m_degree [rVar 2])) (rOr (rCmp .NotEq (rCall m_by_weights [rVar 6]) (rCall m_by_weights [rVar 2])) (rCmp .NotEq (rCall m_how_far [rVar 6]) (rCall m_how_far [rVar 2]))))
  (sRet (rK (.bl false)))
  (sPass))
  (sSeq (sIf (rOr (rCmp .NotEq (rCall m_is_flattest [rVar 6]) (rCall m_is_flattest [rVar 2])) (rCmp .NotEq (rCall dLen [rCall m_needed [rVar 6]]) (rCall dLen [rCall m_needed [rVar 2]])))
  (sRet (rK (.bl false)))
  (sPass))
  (sSeq (sIf (rCmp .NotEq (rCall m_marks [rVar 6]) (rCall m_marks [rVar 2]))
  (sRet (rK (.bl false)))
  (sPass))
  (sSeq (sSet 7 (rComp 0 [2] (iRange (rVar 1)) none (rCall m_how_much [rVar 1,rVar 0])))
  (sSeq (sIf (rCmp .NotEq (rCall dSorted [rComp 0 [6] (iRange (rVar 1)) none (rCall m_how_much [rVar 1,rVar 0])]) (rCall dSorted [rLook 7]))
  (sRet (rK (.bl false)))
  (sPass))
  (sSeq (sIf (rCmp .Eq (rIx (rLook 5) (rK (.int 2))) (rK (.int 0)))
  (sSeq (sIf (rOr (rCmp .NotEq (rCall dLen [rCall m_ones [rVar 6]]) (rCall dLen [rCall m_ones [rVar 2]])) (rCmp .NotEq (rCall dLen [rCall m_primes [rVar 6]]) (rCall dLen [rCall m_primes [rVar 2]])))
   (sRet (rK (.bl false)))
   (sPass))
   (sIf (rCmp .NotEq (rCall dLen [rCall m_essentials [rVar 6]]) (rCall dLen [rCall m_essentials [rVar 2]]))
   (sRet (rK (.bl false)))
   (sPass)))
  (sPass))
  (sSeq (sIf (rOr (rCmp .NotEq (rCall m_moved [rVar 6,rCall m_back [rVar 5]]) (rVar 2)) (rCmp .NotEq (rCall m_primes [rCall m_moved [rVar 6,rCall m_back [rVar 5]]]) (rCall m_primes [rVar 2])))
  (sRet (rK (.bl false)))
  (sPass))
  (sSeq (sIf (rCmp .NotEq (rCall m_behind [rVar 5,rCall m_back [rVar 5]]) (rCall m_still [rVar 1]))
  (sRet (rK (.bl false)))
  (sPass))
  (sIf (rAnd (rCmp .Lt (rVar 1) (rK (.int 3))) (rOr (rCmp .IsNot (rCall m_are_kin [rVar 2,rVar 6]) (rK (.bl true))) (rCmp .NotEq (rCall m_least_form [rVar 6]) (rCall m_least_form [rVar 2]))))
  (sRet (rK (.bl false)))
  (sPass))))))))))
section
variable {m:Nat} {a:List Bool}
theorem zL (hm:m≤3) (g:Good m a) {q:List Nat×List Bool×Bool} (hq:q∈Lm m) (s0 s3 s4 s7:Slot):
  ∃ s7',rest [s0, .sh (.int (m:Nat)), .sh (sw m a),s3,s4, .sh (qD q), .sh (sw m (mvq m a q)),s7]= .nx [s0, .sh (.int (m:Nat)), .sh (sw m a),s3,s4, .sh (qD q), .sh (sw m (mvq m a q)),s7']:=by
 have kA:=keepA hm g.2 hq
 have pA:=(aCx hm g.2).1
 have kB:=keepB hm g.2 hq
 have pB:=(aCx hm g.2).2
 have hk:=aD9 hm g hq
 generalize hb:mvq m a q=b at kA kB hk
 have hbk: ∀ s7,rCall m_moved [rVar 6,rCall m_back [rVar 5]] [s0, .sh (.int (m:Nat)), .sh (sw m a),s3,s4, .sh (qD q), .sh (sw m b),s7]= .ok (sw m a):=fun s7=>by
  subst hb;exact aCz hm g hq rfl rfl
 simp only [mesA,List.cons.injEq,and_true] at kA
 simp only [mesB,List.cons.injEq,and_true] at kB
 obtain⟨a0,a1,a2,a3,a4,a5,a6,a7⟩:=kA
 have p0:=pA (m_degree [sw m a]) (by simp [mesA])
 have p1:=pA (m_by_weights [sw m a]) (by simp [mesA])
 have p2:=pA (m_how_far [sw m a]) (by simp [mesA])
 have p3:=pA (m_is_flattest [sw m a]) (by simp [mesA])
 have p4:=pA (rCall dLen [rCall m_needed [rVar 0]] [.sh (sw m a)]) (by simp [mesA])
 have p5:=pA (m_marks [sw m a]) (by simp [mesA])
 have p6:=pA (rCall dSorted [rComp 0 [0] (iRange (rK (.int (m:Nat)))) none (rCall m_how_much [rVar 1,rVar 0])] [.sh (sw m a)]) (by simp [mesA])
 have p7:=pA (if m<3 then m_least_form [sw m a] else .ok .non) (by simp [mesA])
 -- the comprehension gives a list
 obtain⟨xs,hx⟩: ∃ xs,rComp 0 [0] (iRange (rK (.int (m:Nat)))) none (rCall m_how_much [rVar 1,rVar 0]) [.sh (sw m a)]= .ow xs:=by
  cases e:rComp 0 [0] (iRange (rK (.int (m:Nat)))) none (rCall m_how_much [rVar 1,rVar 0]) [.sh (sw m a)] with
  | ow xs=>exact⟨xs,rfl⟩
  | ok d=>
   exfalso
   have hr:iRange (rK (.int (m:Nat))) [.sh (sw m a)]= .ok (.lst (rngD m)):=aQ rfl (by omega)
   unfold rComp at e
   rw [hr] at e
   have e:(match compGo (compF 0 (caps [0] [.sh (sw m a)]) none (rCall m_how_much [rVar 1,rVar 0])) (rngD m) with | some xs=>R.ow xs | none=> .bad)= .ok d:=e
   split at e<;>cases e
  | ex c=>rw [show rCall dSorted [rComp 0 [0] (iRange (rK (.int (m:Nat)))) none (rCall m_how_much [rVar 1,rVar 0])] [.sh (sw m a)]= .ex c by simp [rCall,rAll,args,e,RA.then]] at p6;cases p6
  | bad=>rw [show rCall dSorted [rComp 0 [0] (iRange (rK (.int (m:Nat)))) none (rCall m_how_much [rVar 1,rVar 0])] [.sh (sw m a)]= .bad by simp [rCall,rAll,args,e,RA.then]] at p6;cases p6
 have hs:rCall dSorted [rComp 0 [0] (iRange (rK (.int (m:Nat)))) none (rCall m_how_much [rVar 1,rVar 0])] [.sh (sw m a)]=dSorted [.lst xs]:=a8 hx
 rw [hs] at p6 a6
 subst hb
 have hx2: ∀ s7,rComp 0 [2] (iRange (rVar 1)) none (rCall m_how_much [rVar 1,rVar 0]) [s0, .sh (.int (m:Nat)), .sh (sw m a),s3,s4, .sh (qD q), .sh (sw m (mvq m a q)),s7]= .ow xs:=fun s7=>hx
 have a62: ∀ s7,rCall dSorted [rComp 0 [6] (iRange (rVar 1)) none (rCall m_how_much [rVar 1,rVar 0])] [s0, .sh (.int (m:Nat)), .sh (sw m a),s3,s4, .sh (qD q), .sh (sw m (mvq m a q)),s7]=dSorted [.lst xs]:=fun s7=>a6
 refine⟨.sh (.lst xs), ?_⟩
 refine(aB ((bA ((cS (aX ((rCall1 rfl).trans a0) (rCall1 rfl) p0)).trans ((cS (aX ((rCall1 rfl).trans a1) (rCall1 rfl) p1)).trans (aX ((rCall1 rfl).trans a2) (rCall1 rfl) p2)))).trans rfl)).trans ?_
 refine(aB ((bA ((cS (aX ((rCall1 rfl).trans a3) (rCall1 rfl) p3)).trans (aX ((bK (x:=sw m (mvq m a q)) rfl).trans a4) (bK (x:=sw m a) rfl) p4))).trans rfl)).trans ?_
 refine(aB ((bA (aX ((rCall1 rfl).trans a5) (rCall1 rfl) p5)).trans rfl)).trans ?_
 refine(aB (hV (hx2 s7))).trans ?_
 refine(aB ((bA (aX (r:=dSorted [.lst xs]) (a62 _) (rCall1 rfl) p6)).trans rfl)).trans ?_
 refine(aB (ρ':=[s0, .sh (.int (m:Nat)), .sh (sw m a),s3,s4, .sh (qD q), .sh (sw m (mvq m a q)), .sh (.lst xs)]) ?_).trans ?_
 ·have hc:rCmp .Eq (rIx (rLook 5) (rK (.int 2))) (rK (.int 0)) [s0, .sh (.int (m:Nat)), .sh (sw m a),s3,s4, .sh (qD q), .sh (sw m (mvq m a q)), .sh (.lst xs)]= .ok (.bl (!q.2.2)):=by
   refine(aV (x:=bD q.2.2) rfl rfl).trans ?_
   cases q.2.2<;>rfl
  cases hw:q.2.2 with
  | true=>exact(bA (hc.trans (by rw [hw];rfl))).trans rfl
  | false=>
   obtain⟨b0,b1,b2,b3⟩:=kB hw
   have q0:=pB (rCall dLen [rCall m_ones [rVar 0]] [.sh (sw m a)]) (by simp [mesB])
   have q1:=pB (rCall dLen [rCall m_primes [rVar 0]] [.sh (sw m a)]) (by simp [mesB])
   have q2:=pB (rCall dLen [rCall m_essentials [rVar 0]] [.sh (sw m a)]) (by simp [mesB])
   refine(eY (hc.trans (by rw [hw];rfl))).trans ((aB ((bA ((cS (aX ((bK (x:=sw m (mvq m a q)) rfl).trans b0) (bK (x:=sw m a) rfl) q0)).trans (aX ((bK (x:=sw m (mvq m a q)) rfl).trans b1) (bK (x:=sw m a) rfl) q1))).trans rfl)).trans ((bA (aX ((bK (x:=sw m (mvq m a q)) rfl).trans b2) (bK (x:=sw m a) rfl) q2)).trans rfl))
 have q3:rPl (m_primes [sw m a])=true:=by
  have:=pB (bif rPl (m_primes [sw m a]) then .ok .non else .bad) (by simp [mesB])
  cases h:rPl (m_primes [sw m a]) with
  | true=>rfl
  | false=>rw [h] at this;cases this
 have hsw:rPl (.ok (sw m a))=true:=by
  show(plain (sw m a)&&decide (dep (sw m a)≤60))=true
  rw [nY,decide_eq_true (wA m a)];rfl
 refine(aB ((bA ((cS (aX (hbk _) rfl hsw)).trans (aX (r:=m_primes [sw m a]) (rCall1 (hbk _)) (rCall1 rfl) q3))).trans rfl)).trans ?_
 refine(aB ((bA (aX (r:=m_still [.int (m:Nat)]) ((sB (x:=qD q) rfl).trans (aC0 hm hq)) (rCall1 rfl) (zAd u7 m (zPd (by omega))))).trans rfl)).trans ?_
 have hlt:rCmp .Lt (rVar 1) (rK (.int 3)) [s0, .sh (.int (m:Nat)), .sh (sw m a),s3,s4, .sh (qD q), .sh (sw m (mvq m a q)), .sh (.lst xs)]= .ok (.bl (decide ((m:Int)<3))):=(aV rfl rfl).trans rfl
 refine(bA ?_).trans rfl
 by_cases h3:m<3
 ·rw [if_pos h3] at p7
  rw [if_pos h3,if_pos h3] at a7
  have hi:(m:Int)<3:=by omega
  refine(dH (hlt.trans (by rw [decide_eq_true hi]))).trans ((cS ((aV ((rCall2 rfl rfl).trans hk) rfl).trans rfl)).trans (aX ((rCall1 rfl).trans a7) (rCall1 rfl) p7))
 ·have hi: ¬ (m:Int)<3:=by omega
  exact eZ (hlt.trans (by rw [decide_eq_false hi]))
end
noncomputable def body:FS:=(sSeq (sSet 5 (rIx (rLook 3) (rCall m_law_pick [rVar 0,rBin .Add (rK (.int 100)) (rVar 4),rCall dLen [rLook 3]])))
  (sSeq (sSet 6 (rCall m_moved [rVar 2,rVar 5])) rest))
theorem sC (ns:List Int) {m:Nat} {a:List Bool} (hm:m≤3) (g:Good m a) (k:Nat) (s5 s6 s7:Slot):
  ∃ s5' s6' s7',body [.sh (Sc ns), .sh (.int (m:Nat)), .sh (sw m a), .sh (.lst ((Lm m).map qD)), .sh (.int (k:Nat)),s5,s6,s7]= .nx [.sh (Sc ns), .sh (.int (m:Nat)), .sh (sw m a), .sh (.lst ((Lm m).map qD)), .sh (.int (k:Nat)),s5',s6',s7']:=by
 have hpos:0<(Lm m).length:=by
  rcases(show m=0∨m=1∨m=2∨m=3 by omega) with rfl | rfl | rfl | rfl<;>decide+kernel
 obtain⟨p,ep,lp⟩:=bE ns (100+k) hpos
 have hi:((Lm m).map qD)[p]? =some (qD (Lm m)[p]):=by simp [lp]
 have hq:(Lm m)[p]∈Lm m:=List.getElem_mem lp
 generalize (Lm m)[p]=q at hi hq
 obtain⟨s7',e⟩:=zL hm g hq (.sh (Sc ns)) (.sh (.lst ((Lm m).map qD))) (.sh (.int (k:Nat))) s7
 have hl:rCall dLen [rLook 3] [.sh (Sc ns), .sh (.int (m:Nat)), .sh (sw m a), .sh (.lst ((Lm m).map qD)), .sh (.int (k:Nat)),s5,s6,s7]= .ok (.int ((Lm m).length:Nat)):=by
  refine(rCall1 (x:= .lst ((Lm m).map qD)) rfl).trans ?_
  show R.ok (.int (((Lm m).map qD).length:Nat))=_
  rw [List.length_map]
 refine⟨.sh (qD q), .sh (sw m (mvq m a q)),s7',(aB (a9 ((d9 (x:= .lst ((Lm m).map qD)) rfl ((rCall3 (y:= .int ((100+k:Nat):Int)) rfl ((aI rfl rfl).trans rfl) hl).trans ep)).trans (dZ hi)))).trans ((aB (a9 ((rCall2 rfl rfl).trans (wF hm g hq)))).trans e)⟩
theorem law_true (ns:List Int):m_law [.lst (ns.map D.int)]= .ok (.bl true):=by
 obtain⟨m,em,lm⟩:=bE ns 0 (m:=4) (by decide)
 have hm:m≤3:=by omega
 obtain⟨a,g,ea⟩:=uM ns 10 (m:=m) (by omega)
 obtain⟨s5,s6,s7,e0⟩:=sC ns hm g 0 .no .no .no
 obtain⟨t5,t6,t7,e1⟩:=sC ns hm g 1 s5 s6 s7
 refine aG ((aB (a9 ((rCall3 (y:= .int ((0:Nat):Int)) (z:= .int ((4:Nat):Int)) rfl rfl rfl).trans em))).trans ((aB (a9 ((rCall3 (y:= .int ((10:Nat):Int)) (z:= .int (m:Nat)) rfl rfl rfl).trans ea))).trans ((aB (hV ((rCall1 (x:= .int (m:Nat)) rfl).trans (nB hm)))).trans ((aB (ρ':=[.sh (Sc ns), .sh (.int (m:Nat)), .sh (sw m a), .sh (.lst ((Lm m).map qD)), .sh (.int ((1:Nat):Int)),t5,t6,t7]) ?_).trans rfl))))
 refine(yY (ds:=rngD 2) (.inl (aQ (n:=2) rfl (by decide)))).trans ?_
 show forGo (tgtS [4] true) body [.int ((0:Nat):Int), .int ((1:Nat):Int)] _=_
 unfold forGo
 show(match body [.sh (Sc ns), .sh (.int (m:Nat)), .sh (sw m a), .sh (.lst ((Lm m).map qD)), .sh (.int ((0:Nat):Int)), .no, .no, .no] with | .nx ρ2=>forGo (tgtS [4] true) body [.int ((1:Nat):Int)] ρ2 | .ct ρ2=>_ | .bk ρ2=>_ | .rt r=>_ | .ex c ρ2=>_)=_
 rw [e0]
 show forGo (tgtS [4] true) body [.int ((1:Nat):Int)] _=_
 unfold forGo
 show(match body [.sh (Sc ns), .sh (.int (m:Nat)), .sh (sw m a), .sh (.lst ((Lm m).map qD)), .sh (.int ((1:Nat):Int)),s5,s6,s7] with | .nx ρ2=>forGo (tgtS [4] true) body [] ρ2 | .ct ρ2=>_ | .bk ρ2=>_ | .rt r=>_ | .ex c ρ2=>_)=_
 rw [e1]
 rfl
open PySem.Spec PyProof.Rows L2 PySem.W
noncomputable abbrev KK (w:World):PySem.W.Frag:=kK w.params
set_option maxHeartbeats 0 in
theorem all_mk {l:PySem.W.OpenLaw} {w:World} {h:Heap} {mg:Str→Option Value} {fa:Addr} (X:(KK w).In h) (G:h.Ns mainGlobals mg) (hfa:mg "law"=some (.ref fa)):
  ∃ fd:FuncData,(∀ (s:Shared) (v:Value),BindsTo s fd ⟨[v],[]⟩ [("_law_script",v)])∧ ∀ base:Heap,(KK w).In base→base.Ns mainGlobals mg→FnOk l.prog w (KK w) mg base (CXe l.prog w) 73 fa fd ["_law_script"] (spLaw (KK w)):=by
 cases hfa.symm.trans (PySem.W.mg_of X G (n:="law") (v:= .ref 460) (by kernel_rfl))
 refine⟨PySem.W.fnOf "law" "law" (defArgs (top 80)) (defBody (top 80)) (defScope (top 80)) .none .none .none (.str "law_switchkinds_k79_whole_kin_measured" 697) none (.ref 459) .none,fun s v=> .of_eq rfl,fun base _ _=> ?_⟩
 have t:PQ l.prog w (KK w) mg base h (adOf [24,37,49,61,73,85] 24 [94,101,106,113,120,127,134,141,146,151,156,163,170,177,184,191,198,203,208,215,220,227,234,241,248,253,258,265,270,275,280,287,292,297,302,309,316,323,328,335,342,347,352,359,364,369,376,381,389,394,401,406,411,416,421,426,433,440,445,450,455,460]) 0 [] []:= .nil X G (yV (by kernel_rfl) (by kernel_rfl))
 have t:=t.int "MOST_NAMES" 4 289
 have t:=t.int "MOST_NAMES_LISTED" 3 291
 have t:=t.val "PARTS" (u:= .ref 382) (v:= .ref 382) rfl (fun G=>qZ (ds:=[.int 0, .int 1, .non]) (vs:=[.int 0, .int 1, .non]) rfl rfl rfl rfl (by decide) (by repeat (first | exact .nil | refine .cons ⟨_,rfl⟩ ?_ | refine .cons rfl ?_)) (by repeat (first | exact Reps.nil | refine Reps.cons (by unfold Rep;rfl) ?_)))
 have t:=t.exc "SwitchError" 0
 have t:=t.exc "NoSwitch" 1
 have t:=t.exc "NoName" 2
 have t:=t.exc "NoMove" 3
 have t:=t.exc "Unlike" 4
 have t:=t.exc "NoTerm" 5
 have t:=t.verr
 have t:=t.py .len
 have t:=t.py .range
 have t:=t.py .enum
 have t:=t.py .zip
 have t:=t.py .isin
 have t:=t.py .int
 have t:=t.py .bool
 have t:=t.py .tuple
 have t:=t.py .list
 have t:=t.py .sum
 have t:=t.py .all
 have t:=t.py .any
 have t:=t.py .sorted
 have t:=t.py .min
 have t:=t.py .max
 have t:=t.py .abs
 have t:=t.add "is_whole" (top 10) 94 ["thing"] 1 m_is_whole rfl
 have t:=t.add "is_whole_below" (top 11) 101 ["thing","bound"] 2 m_is_whole_below rfl
 have t:=t.add "are_whole_below" (top 12) 106 ["things","bound"] 2 m_are_whole_below rfl
 have t:=t.add "is_many" (top 13) 113 ["thing"] 1 m_is_many rfl
 have t:=t.add "is_many_listed" (top 14) 120 ["thing"] 1 m_is_many_listed rfl
 have t:=t.add "is_row" (top 15) 127 ["thing","length","bound"] 3 m_is_row rfl
 have t:=t.add "all_rows" (top 16) 134 ["length"] 1 m_all_rows rfl
 have t:=t.add "how_many_settings" (top 17) 141 ["many"] 1 m_how_many_settings rfl
 have t:=t.add "setting_at" (top 18) 146 ["many","number"] 2 m_setting_at rfl
 have t:=t.add "number_of" (top 19) 151 ["setting"] 1 m_number_of rfl
 have t:=t.add "all_settings" (top 20) 156 ["many"] 1 m_all_settings rfl
 have t:=t.add "how_many_ones" (top 21) 163 ["number"] 1 m_how_many_ones rfl
 have t:=t.add "is_switch" (top 23) 170 ["thing"] 1 m_is_switch rfl
 have t:=t.add "check_switch" (top 24) 177 ["thing"] 1 m_check_switch rfl
 have t:=t.add "check_alike" (top 25) 184 ["one","other"] 2 m_check_alike rfl
 have t:=t.add "check_many" (top 26) 191 ["thing"] 1 m_check_many rfl
 have t:=t.add "check_name" (top 27) 198 ["many","thing"] 2 m_check_name rfl
 have t:=t.add "ones" (top 28) 203 ["switch"] 1 m_ones rfl
 have t:=t.add "odd_within" (top 30) 208 ["many","numbers"] 2 m_odd_within rfl
 have t:=t.add "products" (top 31) 215 ["switch"] 1 m_products rfl
 have t:=t.add "degree" (top 32) 220 ["switch"] 1 m_degree rfl
 have t:=t.add "is_order" (top 34) 227 ["many","thing"] 2 m_is_order rfl
 have t:=t.add "is_move" (top 35) 234 ["many","thing"] 2 m_is_move rfl
 have t:=t.add "check_move" (top 36) 241 ["many","thing"] 2 m_check_move rfl
 have t:=t.add "names_of" (top 37) 248 ["thing"] 1 m_names_of rfl
 have t:=t.add "led" (top 38) 253 ["setting","move"] 2 m_led rfl
 have t:=t.add "moved" (top 39) 258 ["switch","move"] 2 m_moved rfl
 have t:=t.add "still" (top 40) 265 ["many"] 1 m_still rfl
 have t:=t.add "behind" (top 41) 270 ["one","other"] 2 m_behind rfl
 have t:=t.add "back" (top 42) 275 ["move"] 1 m_back rfl
 have t:=t.add "all_orders" (top 43) 280 ["many"] 1 m_all_orders rfl
 have t:=t.add "all_moves" (top 44) 287 ["many"] 1 m_all_moves rfl
 have t:=t.add "how_much" (top 46) 292 ["switch","name"] 2 m_how_much rfl
 have t:=t.add "needed" (top 47) 297 ["switch"] 1 m_needed rfl
 have t:=t.add "marks" (top 48) 302 ["switch"] 1 m_marks rfl
 have t:=t.add "check_listed" (top 50) 309 ["many"] 1 m_check_listed rfl
 have t:=t.add "check_one" (top 51) 316 ["switch"] 1 m_check_one rfl
 have t:=t.add "check_two" (top 52) 323 ["one","other"] 2 m_check_two rfl
 have t:=t.add "all_led" (top 53) 328 ["switch"] 1 m_all_led rfl
 have t:=t.add "least_form" (top 54) 335 ["switch"] 1 m_least_form rfl
 have t:=t.add "are_kin" (top 55) 342 ["one","other"] 2 m_are_kin rfl
 have t:=t.addR "summed" (top 57) 347 ["numbers"] 1 mS 12 rfl
 have t:=t.add "sums" (top 58) 352 ["switch"] 1 m_sums rfl
 have t:=t.add "by_weights" (top 59) 359 ["switch"] 1 m_by_weights rfl
 have t:=t.add "sum_of_names" (top 60) 364 ["many","number","turn"] 3 m_sum_of_names rfl
 have t:=t.add "nearest" (top 61) 369 ["switch"] 1 m_nearest rfl
 have t:=t.add "how_far" (top 62) 376 ["switch"] 1 m_how_far rfl
 have t:=t.add "is_flattest" (top 63) 381 ["switch"] 1 m_is_flattest rfl
 have t:=t.add "is_part" (top 66) 389 ["thing"] 1 m_is_part rfl
 have t:=t.add "is_term" (top 67) 394 ["many","thing"] 2 m_is_term rfl
 have t:=t.add "check_term" (top 68) 401 ["many","thing"] 2 m_check_term rfl
 have t:=t.add "held_at" (top 69) 406 ["term"] 1 m_held_at rfl
 have t:=t.add "all_terms" (top 70) 411 ["many"] 1 m_all_terms rfl
 have t:=t.add "widened" (top 71) 416 ["term"] 1 m_widened rfl
 have t:=t.add "primes" (top 72) 421 ["switch"] 1 m_primes rfl
 have t:=t.add "essentials" (top 73) 426 ["switch"] 1 m_essentials rfl
 have t:=t.add "_law_cell" (top 75) 433 ["_law_script","_law_k"] 2 m_law_cell rfl
 have t:=t.add "_law_pick" (top 76) 440 ["_law_script","_law_k","_law_many"] 3 m_law_pick rfl
 have t:=t.add "_law_setting" (top 77) 445 ["_law_many","_law_number"] 2 m_law_setting rfl
 have t:=t.add "_law_odd" (top 78) 450 ["_law_one","_law_other"] 2 m_law_odd rfl
 have t:=t.add "_law_switch" (top 79) 455 ["_law_script","_law_at","_law_many"] 3 m_law_switch rfl
 exact yW (q8 (ps:=["_law_script"]) t.B t.t FnsOk.nil (oK (x:="law") (st:=top 80) (f:=460) rfl (by kernel_rfl) (by kernel_rfl)) rfl (by kernel_rfl)) law_true
end SK.k79
open PySem PySem.W PyProof.Rows
set_option maxRecDepth 100000 in
set_option maxHeartbeats 0 in
theorem PySem.Challenge.cw_switchkinds_k79_whole_kin_measured_holds : PySem.Challenge.rw_switchkinds_k79_whole_kin_measured.Holds := by
 w_on;o_law
 refine PySem.W.holds_open (q:=SK.k79.kq) (loose:=[]) (Xt:=fun s=>PySem.W.xlAt SK.k79.kq [] s&&PySem.W.recOk (PySem.W.RowW.records (PySem.W.OpenRow.toRowW PySem.Challenge.rw_switchkinds_k79_whole_kin_measured.row)) s) (XP:=PySem.W.XL SK.k79.kq []) (Yf:=PySem.W.Hook.obs (PySem.W.kHook SK.k79.kK SK.k79.kas (fun _=>by kernel_rfl))) (Ya:=PySem.W.Hook.val (PySem.W.kHook SK.k79.kK SK.k79.kas (fun _=>by kernel_rfl))) (YP:=PySem.W.Hook.says (PySem.W.kHook SK.k79.kK SK.k79.kas (fun _=>by kernel_rfl))) (N:=6330) SK.k79.left (PySem.W.Hook.of (PySem.W.kHook SK.k79.kK SK.k79.kas (fun _=>by kernel_rfl))) (PySem.W.Hook.keeps (PySem.W.kHook SK.k79.kK SK.k79.kas (fun _=>by kernel_rfl))) (fun s e=>PySem.W.xl_of s (Bool.and_eq_true_iff.mp e).1) PySem.W.XL.keeps (by rfl) (by rfl) (by rfl) (fun s e=>PySem.W.recFacts_of (Bool.and_eq_true_iff.mp e).2) (by rfl) (by first | assumption | decide+kernel) (by decide+kernel) ⟨rfl,rfl,rfl,rfl,rfl,by decide+kernel⟩ ?hw ?hc
 (case hw=>w_witness2)
 refine SK.walk (l:=PySem.Challenge.rw_switchkinds_k79_whole_kin_measured) 73 rfl rfl ⟨rfl,by decide,by decide⟩ (fun w h Y=>PySem.W.kIn_of Y) ?F
 case F=>
  intro w mg fa h KX G hmg
  exact SK.k79.all_mk KX G hmg
