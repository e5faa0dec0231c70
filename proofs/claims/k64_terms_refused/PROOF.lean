import PyProof.Rows.All
import Wide.All
import OpenK.AllK
import Wide.FinOn
import Lean
import PyProof.EqAt
import PyProof.EqKinds
import PyProof.TupleCall
import PySem.Syntax
import PySem.Builtin.Int.W1All
import PySem.Eval
import PyProof.P3Eq
import PyProof.NeData
import PyProof.Rows.IntBool
import PyProof.ExcArgs
import PyProof.RulesAs
import PyProof.RulesDel
import KE.KTryMore
import PyProof.ZipIter
import PyProof.EnumStmt
import PyProof.ListRange
import PyProof.TupleOfSeq
import PyProof.ConsumeS
import PyProof.Rows.MinMaxGenD
import PyProof.Rows.RuleM_int
import KE.KRevSl
import PyProof.SetNew
import PyProof.Rows.SetFrom
import PyProof.Rows.CallKwBuiltin
import PyProof.TupleKey
import PyProof.FactsAll.NoneType
import KE.KSortTup
import PyProof.DictRoadsH
import PyProof.DictWalks
import KE.KUnpack
import KE.KLam
import PySem.Challenge.RW_switchkinds_k64_terms_refused
theorem zBd {α β:Type} {o:Option α} {f:α→Option β} {b:β} (h:o.bind f=some b): ∃ a,o=some a∧f a=some b:=Option.bind_eq_some_iff.mp h
theorem zMd {α β:Type} {o:Option α} {f:α→β} {b:β} (h:o.map f=some b): ∃ a,o=some a∧f a=b:=Option.map_eq_some_iff.mp h
theorem zAd {α:Type} {l:List α} {p:α→Bool} (h:l.all p=true): ∀ x,x∈l→p x=true:=List.all_eq_true.mp h
theorem zPd {m n:Nat} (h:m<n):m∈List.range n:=List.mem_range.mpr h
theorem zRd {m n:Nat} (h:m∈List.range n):m<n:=List.mem_range.mp h
set_option Elab.async false
set_option linter.all false
set_option maxRecDepth 100000
set_option maxHeartbeats 0
namespace L2
open PySem
noncomputable def defArgs (s:Stmt):Arguments:=match s with
 | .FunctionDef _ a _ _ _ _ _ _ _ _=>a
 | _=>{ posonlyargs:=[],args:=[],vararg:=none,kwonlyargs:=[],kw_defaults:=[],kwarg:=none,defaults:=[] }
noncomputable def defBody (s:Stmt):List Stmt:=match s with
 | .FunctionDef _ _ b _ _ _ _ _ _ _=>b
 | _=>[]
noncomputable def defScope (s:Stmt):Scope:=match s with
 | .FunctionDef _ _ _ _ _ _ sc _ _ _=>sc
 | _=>{ kind:= .function,names:=[],isGenerator:=false,isCoroutine:=false }
end L2
namespace SK.k64
open PySem
noncomputable def top (i:Nat):Stmt:=PySem.Challenge.pw_switchkinds_k64_terms_refused.main.body.getD i (.Pass ⟨0,0,0,0⟩)
noncomputable abbrev en (P:Params) (k:Str) (t:Nat) (v:Value):DictEntry:=⟨PyData.keyHash P k, .str k t,v⟩
noncomputable abbrev fo (st:Stmt) (x m:Str) (t c:Nat):Obj:={ cls:= .type "function",data:= .func { name:=x,qualname:=x,params:=L2.defArgs st,body:= .stmts (L2.defBody st),scope:=L2.defScope st,globals:=3,closure:=[],defaults:= .none,kwdefaults:= .none,pyModule:= .str m t,code:= .ref c } }
noncomputable abbrev co (vs:Array Value):Obj:={ cls:= .type "code",data:= .fields vs }
noncomputable abbrev cC (x:Str) (a l n r e:Nat) (u v w:Value):Obj:=co #[.str x a, .str x (a+1), .str "/claim/cut.py" (a+2), .int l 0, .int n 0, .int 0 0, .int 0 0, .int 3 0, .ref r, .bool true, .int 181 0, .ref (r+1), .none,u,v,w, .int e 0, .int l 0, .str "/claim/cut.py" (e+1)]
noncomputable abbrev cA (x:Str) (a l n r e:Nat):Obj:=cC x a l n r e .none .none (.ref (r+2))
noncomputable abbrev cB (x:Str) (a l n r e:Nat):Obj:=cC x a l n r e (.ref (r+2)) (.ref (r+3)) (.ref (r+4))
noncomputable abbrev cK (x:Str) (f c ns s a b:Nat):Obj:={ cls:= .type "type",data:= .cls { name:=x,bases:=[.ref c],mro:=[.ref f, .ref c, .type "ValueError", .type "Exception", .type "BaseException", .type "object"],ns:=ns,qualname:=x },slots:= #[some (.ref s),none,some (.str x a),some (.str x b),some (.builtin "ValueError.__new__"),some (.bool true)] }
noncomputable abbrev dK (P:Params) (m:Str) (q a l r:Nat):Obj:={ cls:= .type "dict",data:= .dict #[en P "__module__" a (.str m q),en P "__firstlineno__" (a+4) (.int l (a+3)),en P "__static_attributes__" (a+5) (.ref r),en P "__doc__" (a+6) .none] 2 }
noncomputable def kK:Params→PySem.W.Frag:=fun P=>[
(3,{ cls:= .type "dict",data:= .dict #[en P "__name__" 165 (.str "law_switchkinds_k64_terms_refused" 543),en P "__doc__" 166 .none,en P "__package__" 167 .none,en P "__loader__" 168 (.builtin "__main__.__loader__#opaque"),en P "__spec__" 169 .none,en P "__annotations__" 170 (.ref 6),en P "__builtins__" 171 (.ref 4),en P "__file__" 173 (.str "/claim/cut.py" 172),en P "__cached__" 174 .none,en P "SwitchError" 206 (.ref 24),en P "NoSwitch" 222 (.ref 37),en P "NoName" 238 (.ref 49),en P "NoMove" 254 (.ref 61),en P "Unlike" 270 (.ref 73),en P "NoSums" 286 (.ref 85),en P "NoText" 302 (.ref 97),en P "NoTerm" 318 (.ref 109),en P "NoLabel" 334 (.ref 121),en P "NoBack" 350 (.ref 133),en P "MOST_NAMES" 354 (.int 4 353),en P "is_whole" 361 (.ref 142),en P "is_whole_below" 369 (.ref 149),en P "are_whole_below" 375 (.ref 154),en P "is_many" 382 (.ref 161),en P "is_row" 391 (.ref 168),en P "how_many_settings" 398 (.ref 175),en P "setting_at" 404 (.ref 180),en P "how_many_ones" 411 (.ref 187),en P "is_switch" 420 (.ref 194),en P "check_switch" 427 (.ref 201),en P "check_many" 434 (.ref 208),en P "ones" 440 (.ref 213),en P "of_ones" 446 (.ref 218),en P "PARTS" 451 (.ref 219),en P "is_part" 458 (.ref 226),en P "is_term" 464 (.ref 231),en P "check_term" 472 (.ref 238),en P "held_at" 478 (.ref 243),en P "of_terms" 488 (.ref 250),en P "all_terms" 494 (.ref 255),en P "widened" 500 (.ref 260),en P "primes" 506 (.ref 265),en P "essentials" 512 (.ref 270),en P "odd_within" 520 (.ref 275),en P "products" 528 (.ref 282),en P "of_products" 536 (.ref 289),en P "degree" 542 (.ref 294),en P "_law_cell" 552 (.ref 301),en P "_law_pick" 562 (.ref 308),en P "_law_class" 571 (.ref 315),en P "_law_told" 579 (.ref 322),en P "law" 593 (.ref 329)] 52 }),
(23,{ cls:= .type "dict",data:= .dict #[en P "__module__" 196 (.str "switchkinds.errors" 187),en P "__firstlineno__" 200 (.int 2 199),en P "__static_attributes__" 201 (.ref 22),en P "__weakref__" 203 (.ref 25),en P "__doc__" 204 .none] 3 }),
(24,{ cls:= .type "type",data:= .cls { name:="SwitchError",bases:=[.type "ValueError"],mro:=[.ref 24, .type "ValueError", .type "Exception", .type "BaseException", .type "object"],ns:=23,qualname:="SwitchError",subclasses:=[.ref 37, .ref 49, .ref 61, .ref 73, .ref 85, .ref 97, .ref 109, .ref 121, .ref 133] },slots:= #[some (.ref 15),none,some (.str "SwitchError" 189),some (.str "SwitchError" 197),some (.builtin "ValueError.__new__"),some (.bool true)] }),
(25,{ cls:= .type "getset_descriptor",data:= .fields #[.str "__weakref__" 202, .ref 24, .builtin "ExceptionGroup.__weakref__", .none] }),
(36,dK P "switchkinds.errors" 187 214 4 35),
(37,cK "NoSwitch" 37 24 36 28 207 215),
(48,dK P "switchkinds.errors" 187 230 6 47),
(49,cK "NoName" 49 24 48 40 223 231),
(60,dK P "switchkinds.errors" 187 246 8 59),
(61,cK "NoMove" 61 24 60 52 239 247),
(72,dK P "switchkinds.errors" 187 262 10 71),
(73,cK "Unlike" 73 24 72 64 255 263),
(84,dK P "switchkinds.errors" 187 278 12 83),
(85,cK "NoSums" 85 24 84 76 271 279),
(96,dK P "switchkinds.errors" 187 294 14 95),
(97,cK "NoText" 97 24 96 88 287 295),
(108,dK P "switchkinds.errors" 187 310 16 107),
(109,cK "NoTerm" 109 24 108 100 303 311),
(120,dK P "switchkinds.errors" 187 326 18 119),
(121,cK "NoLabel" 121 24 120 112 319 327),
(132,dK P "switchkinds.errors" 187 342 20 131),
(133,cK "NoBack" 133 24 132 124 335 343),
(141,cB "is_whole" 355 24 1 136 359),
(142,fo (top 13) "is_whole" "switchkinds.wholes" 351 141),
(148,cB "is_whole_below" 362 26 2 143 367),
(149,fo (top 14) "is_whole_below" "switchkinds.wholes" 351 148),
(153,cA "are_whole_below" 370 28 2 150 373),
(154,fo (top 15) "are_whole_below" "switchkinds.wholes" 351 153),
(160,cB "is_many" 376 30 1 155 380),
(161,fo (top 16) "is_many" "switchkinds.wholes" 351 160),
(167,cB "is_row" 383 32 3 162 389),
(168,fo (top 17) "is_row" "switchkinds.wholes" 351 167),
(174,cB "how_many_settings" 392 34 1 169 396),
(175,fo (top 18) "how_many_settings" "switchkinds.wholes" 351 174),
(179,cA "setting_at" 399 36 2 176 402),
(180,fo (top 19) "setting_at" "switchkinds.wholes" 351 179),
(186,cB "how_many_ones" 405 38 1 181 409),
(187,fo (top 20) "how_many_ones" "switchkinds.wholes" 351 186),
(193,cB "is_switch" 414 41 1 188 418),
(194,fo (top 22) "is_switch" "switchkinds.switches" 412 193),
(200,cB "check_switch" 421 45 1 195 425),
(201,fo (top 23) "check_switch" "switchkinds.switches" 412 200),
(207,cB "check_many" 428 48 1 202 432),
(208,fo (top 24) "check_many" "switchkinds.switches" 412 207),
(212,cA "ones" 435 51 1 209 438),
(213,fo (top 25) "ones" "switchkinds.switches" 412 212),
(217,cA "of_ones" 441 54 2 214 444),
(218,fo (top 26) "of_ones" "switchkinds.switches" 412 217),
(219,{ cls:= .type "tuple",data:= .seq #[.int 0 449, .int 1 450, .none] 0 }),
(225,cB "is_part" 452 62 1 220 456),
(226,fo (top 29) "is_part" "switchkinds.terms" 447 225),
(230,cA "is_term" 459 64 2 227 462),
(231,fo (top 30) "is_term" "switchkinds.terms" 447 230),
(237,cB "check_term" 465 68 2 232 470),
(238,fo (top 31) "check_term" "switchkinds.terms" 447 237),
(242,cA "held_at" 473 71 1 239 476),
(243,fo (top 32) "held_at" "switchkinds.terms" 447 242),
(249,cB "of_terms" 479 81 2 244 486),
(250,fo (top 33) "of_terms" "switchkinds.terms" 447 249),
(254,cA "all_terms" 489 90 1 251 492),
(255,fo (top 34) "all_terms" "switchkinds.terms" 447 254),
(259,cA "widened" 495 98 1 256 498),
(260,fo (top 35) "widened" "switchkinds.terms" 447 259),
(264,cA "primes" 501 100 1 261 504),
(265,fo (top 36) "primes" "switchkinds.terms" 447 264),
(269,cA "essentials" 507 107 1 266 510),
(270,fo (top 37) "essentials" "switchkinds.terms" 447 269),
(274,cA "odd_within" 515 115 2 271 518),
(275,fo (top 39) "odd_within" "switchkinds.products" 513 274),
(281,cB "products" 521 122 1 276 526),
(282,fo (top 40) "products" "switchkinds.products" 513 281),
(288,cB "of_products" 529 125 2 283 534),
(289,fo (top 41) "of_products" "switchkinds.products" 513 288),
(293,cA "degree" 537 130 1 290 540),
(294,fo (top 42) "degree" "switchkinds.products" 513 293),
(300,cB "_law_cell" 545 133 2 295 550),
(301,fo (top 44) "_law_cell" "law_switchkinds_k64_terms_refused" 543 300),
(307,cB "_law_pick" 553 139 3 302 560),
(308,fo (top 45) "_law_pick" "law_switchkinds_k64_terms_refused" 543 307),
(314,cB "_law_class" 563 142 1 309 569),
(315,fo (top 46) "_law_class" "law_switchkinds_k64_terms_refused" 543 314),
(321,cB "_law_told" 572 150 1 316 577),
(322,fo (top 47) "_law_told" "law_switchkinds_k64_terms_refused" 543 321),
(328,cB "law" 580 155 1 323 591),
(329,fo (top 48) "law" "law_switchkinds_k64_terms_refused" 543 328)]
noncomputable def kas:List Addr:=[3,23,24,25,36,37,48,49,60,61,72,73,84,85,96,97,108,109,120,121,132,133,141,142,148,149,153,154,160,161,167,168,174,175,179,180,186,187,193,194,200,201,207,208,212,213,217,218,219,225,226,230,231,237,238,242,243,249,250,254,255,259,260,264,265,269,270,274,275,281,282,288,289,293,294,300,301,307,308,314,315,321,322,328,329]
noncomputable def kq:Program:={ PySem.Challenge.pw_switchkinds_k64_terms_refused with main:={ PySem.Challenge.pw_switchkinds_k64_terms_refused.main with body:=[top 1,top 2,top 3,top 4,top 5,top 6,top 7,top 8,top 9,top 10,top 12,top 13,top 14,top 15,top 16,top 17,top 18,top 19,top 20,top 22,top 23,top 24,top 25,top 26,top 28,top 29,top 30,top 31,top 32,top 33,top 34,top 35,top 36,top 37,top 39,top 40,top 41,top 42,top 44,top 45,top 46,top 47,top 48] } }
theorem lk1 (w:World):(PySem.W.openEnds treeTable PySem.Challenge.rw_switchkinds_k64_terms_refused.row.prog w 6254).map (fun s=>PyProof.Rows.seen ((PyProof.Rows.recsOf kq).map (·.name)) (PyProof.Rows.ownsOf kq) [] { s with gens:= #[] })=some (PyProof.Rows.expectedOf kq):=by kernel_rfl
theorem lk2 (w:World):(PySem.W.openEnds treeTable PySem.Challenge.rw_switchkinds_k64_terms_refused.row.prog w 6254).map (fun s=>(s.heap.bltView,s.heap.keysOk (PySem.W.looseW kq []) ((PyProof.Rows.recsOf kq).map (·.name)) ((PyProof.Rows.litsOf kq).map (·.1)) ((PyProof.Rows.clssOf kq (PySem.W.looseW kq [])).map (·.name))&&s.heap.accountedOkI (importedModules PySem.Challenge.rw_switchkinds_k64_terms_refused.row.prog.main.body)&&s.heap.isNs mainGlobals&&s.heap.isNs builtinsNs&&PyProof.Rows.tablesOk kq s.heap&&(fun s=>PySem.W.xlAt kq [] s&&PySem.W.recOk (PySem.W.RowW.records (PySem.W.OpenRow.toRowW PySem.Challenge.rw_switchkinds_k64_terms_refused.row)) s) s&&(if true then s.gens.size==0 else !leftWithCleanup s.gens)))=some (bltViewBooted,true):=by kernel_rfl
theorem lk3 (w:World):(PySem.W.openEnds treeTable PySem.Challenge.rw_switchkinds_k64_terms_refused.row.prog w 6254).map (fun s=>PyProof.Rows.tabsOk kq s)=some (true):=by kernel_rfl
theorem lk4 (w:World):(PySem.W.openEnds treeTable PySem.Challenge.rw_switchkinds_k64_terms_refused.row.prog w 6254).map (fun s=>PyProof.Rows.plainSeenE kq (PySem.W.looseW kq []) s)=some (PyProof.Rows.plainGoodE kq (PySem.W.looseW kq [])):=by kernel_rfl
theorem lk5 (w:World):(PySem.W.openEnds treeTable PySem.Challenge.rw_switchkinds_k64_terms_refused.row.prog w 6254).map (fun s=>PySem.W.Hook.obs (PySem.W.kHook kK kas (fun _=>by kernel_rfl)) s)=some (PySem.W.Hook.val (PySem.W.kHook kK kas (fun _=>by kernel_rfl)) w):=by kernel_rfl
theorem lk6 (w:World):(PySem.W.openEnds treeTable PySem.Challenge.rw_switchkinds_k64_terms_refused.row.prog w 6254).map (fun s=>(PyProof.Rows.plainSeenD kq [] s,PySem.W.wideSeen kq s,PySem.W.clsSeenW kq [] s))=some (PyProof.Rows.plainGoodD kq [],PySem.W.wideGood kq,PySem.W.clsGoodW kq []):=by kernel_rfl
theorem lk7 (w:World):(PySem.W.openEnds treeTable PySem.Challenge.rw_switchkinds_k64_terms_refused.row.prog w 6254).map (fun s=>pinSeenD kq (PyProof.Rows.drecsOf kq) s)=some (pinGoodD (PyProof.Rows.drecsOf kq)):=by kernel_rfl
theorem map7 {α β1 β2 β3 β4 β5 β6 β7:Type} {o:Option α} {f1:α→β1} {f2:α→β2} {f3:α→β3} {f4:α→β4} {f5:α→β5} {f6:α→β6} {f7:α→β7} {b1:β1} {b2:β2} {b3:β3} {b4:β4} {b5:β5} {b6:β6} {b7:β7} (h1:o.map f1=some b1) (h2:o.map f2=some b2) (h3:o.map f3=some b3) (h4:o.map f4=some b4) (h5:o.map f5=some b5) (h6:o.map f6=some b6) (h7:o.map f7=some b7): ∃ s,o=some s∧f1 s=b1∧f2 s=b2∧f3 s=b3∧f4 s=b4∧f5 s=b5∧f6 s=b6∧f7 s=b7:=by
 cases o with
 | none=>cases h1
 | some s=>exact⟨s,rfl,Option.some.inj h1,Option.some.inj h2,Option.some.inj h3,Option.some.inj h4,Option.some.inj h5,Option.some.inj h6,Option.some.inj h7⟩
theorem left:PySem.W.LeftO PySem.Challenge.rw_switchkinds_k64_terms_refused.row.prog kq [] (fun s=>PySem.W.xlAt kq [] s&&PySem.W.recOk (PySem.W.RowW.records (PySem.W.OpenRow.toRowW PySem.Challenge.rw_switchkinds_k64_terms_refused.row)) s) (PySem.W.Hook.obs (PySem.W.kHook kK kas (fun _=>by kernel_rfl))) (PySem.W.Hook.val (PySem.W.kHook kK kas (fun _=>by kernel_rfl))) 6254:=fun w=>by
 obtain⟨s,hs,e1,e2,e3,e4,e5,e6,e7⟩:=map7 (lk1 w) (lk2 w) (lk3 w) (lk4 w) (lk5 w) (lk6 w) (lk7 w)
 rw [hs]
 refine congrArg some (Prod.ext (Prod.ext e1 (Prod.ext (congrArg (·.1) e2) (Prod.ext (congrArg (·.2) e2) (Prod.ext e3 (Prod.ext e7 (Prod.ext e4 (Prod.ext (congrArg (·.1) e6) (Prod.ext (congrArg (·.2.1) e6) (congrArg (·.2.2) e6))))))))) e5)
end SK.k64
namespace L2
open PySem PySem.Spec PyProof.Rows
abbrev Key:=Sum Int Str
noncomputable def keyIs:Key→Value→Bool
 | .inl k,v=>Value.isInt k v
 | .inr x,v=>Value.isStrOf x v
noncomputable def keyH (w:World):Key→Int
 | .inl k=>hashInt k
 | .inr x=>hashStr w x
theorem aJ: ∀ {k:Key} {v:Value},keyIs k v=true→(∃ i t,k=Sum.inl i∧v=Value.int i t)∨(∃ x t,k=Sum.inr x∧v=Value.str x t)
 | .inl i,v,h=>by
  obtain⟨t,e⟩:=Value.isInt_shape (k:=i) (v:=v) h
  exact .inl ⟨i,t,rfl,e⟩
 | .inr x,v,h=>by
  obtain⟨t,e⟩:=Value.isStrOf_shape (x:=x) (v:=v) h
  exact .inr ⟨x,t,rfl,e⟩
theorem uK (a b:Int):decide ((Sum.inl a:Key)=Sum.inl b)=(a==b):=by
 by_cases e:a=b
 ·subst e;simp
 ·have h: ¬ (Sum.inl a:Key)=Sum.inl b:=fun q=>e (Sum.inl.inj q)
  rw [decide_eq_false h]
  exact(beq_eq_false_iff_ne.mpr e).symm
theorem uL (a b:Str):decide ((Sum.inr a:Key)=Sum.inr b)=decide (a=b):=by
 by_cases e:a=b
 ·subst e;simp
 ·have h: ¬ (Sum.inr a:Key)=Sum.inr b:=fun q=>e (Sum.inr.inj q)
  rw [decide_eq_false h,decide_eq_false e]
theorem uM (a:Int) (b:Str):decide ((Sum.inl a:Key)=Sum.inr b)=false:=decide_eq_false (fun q=>nomatch q)
theorem uN (a:Str) (b:Int):decide ((Sum.inr a:Key)=Sum.inl b)=false:=decide_eq_false (fun q=>nomatch q)
noncomputable def mixKind (prog:Program) (w:World):PySem.KeyKind prog w Key where
 is:=keyIs
 hash:=keyH w
 inj:=fun v a b ha hb=>by
  rcases aJ ha with ⟨i,t,rfl,rfl⟩ | ⟨x,t,rfl,rfl⟩
  ·rcases aJ hb with ⟨j,u,rfl,e⟩ | ⟨y,u,rfl,e⟩
   ·injection e with e1 _;rw [e1]
   ·exact nomatch e
  ·rcases aJ hb with ⟨j,u,rfl,e⟩ | ⟨y,u,rfl,e⟩
   ·exact nomatch e
   ·injection e with e1 _;rw [e1]
 byValue:=fun k v h=>by
  rcases aJ h with ⟨i,t,rfl,rfl⟩ | ⟨x,t,rfl,rfl⟩<;>rfl
 pyHash:=fun hv h=>by
  rcases aJ hv with ⟨i,t,rfl,rfl⟩ | ⟨x,t,rfl,rfl⟩
  ·exact wpAny_pyHash_int h
  ·exact wpAny_pyHash_str h
 eqBool:=fun hu hv h=>by
  rcases aJ hu with ⟨i,t,rfl,rfl⟩ | ⟨x,t,rfl,rfl⟩
  ·rcases aJ hv with ⟨j,u,rfl,rfl⟩ | ⟨y,u,rfl,rfl⟩
   ·rw [uK] at h;exact wpAny_eqBool_int h
   ·rw [uM] at h;exact SeqAt.EqAt.int_str i t y u _ _ _ _ h
  ·rcases aJ hv with ⟨j,u,rfl,rfl⟩ | ⟨y,u,rfl,rfl⟩
   ·rw [uN] at h;exact SeqAt.EqAt.str_int x t j u _ _ _ _ h
   ·rw [uL] at h;exact wpAny_eqBool_str h
 «strs»:=fun k x t v h=>by
  rcases aJ h with ⟨i,u,rfl,e⟩ | ⟨y,u,rfl,e⟩
  ·exact nomatch e
  ·injection e with e1 _
   subst e1
   cases v<;>rfl
inductive V where
 | non | bl (b:Bool) | int (i:Int) | str (x:Str) | byt (b:Array UInt8) | flt (b:UInt64) | ref (a:Addr) | ty (n:String)
 deriving DecidableEq
noncomputable def RelV:V→Value→Prop
 | .non,u=>u=Value.none
 | .bl b,u=>u=Value.bool b
 | .int i,u=> ∃ t,u=Value.int i t
 | .str x,u=> ∃ t,u=Value.str x t
 | .byt b,u=> ∃ t,u=Value.bytes b t
 | .flt b,u=> ∃ t,u=Value.float b t
 | .ref a,u=>u=Value.ref a
 | .ty n,u=>u=Value.type n
noncomputable abbrev Vals:List V→List Value→Prop:=Paired RelV
theorem Vals.length {xs:List V} {us:List Value} (r:Vals xs us):xs.length=us.length:=Paired.length r
theorem Vals.get: ∀ {xs:List V} {us:List Value} {i:Nat} {x:V},Vals xs us→xs[i]? =some x→ ∃ u,us[i]? =some u∧RelV x u
 | _,_,_,_, .nil,e=>by simp at e
 | _,_,0,_, .cons r _,e=>by simp at e;subst e;exact⟨_,rfl,r⟩
 | _,_,i+1,x, .cons _ t,e=>by
  obtain⟨u,h1,h2⟩:=Vals.get (i:=i) (x:=x) t (by simpa using e)
  exact⟨u,by simpa using h1,h2⟩
theorem Vals.set {x:V} {u:Value} (r:RelV x u): ∀ {xs:List V} {us:List Value} (i:Nat),Vals xs us→Vals (xs.set i x) (us.set i u)
 | _,_,_, .nil=> .nil
 | _,_,0, .cons _ t=> .cons r t
 | _,_,i+1, .cons q t=> .cons q (Vals.set r i t)
theorem Vals.append: ∀ {xs ys:List V} {us ws:List Value},Vals xs us→Vals ys ws→Vals (xs++ys) (us++ws)
 | _,_,_,_, .nil,s=>s
 | _,_,_,_, .cons r t,s=> .cons r (Vals.append t s)
theorem Vals.take: ∀ {xs:List V} {us:List Value} (n:Nat),Vals xs us→Vals (xs.take n) (us.take n)
 | _,_,0,_=> .nil
 | _,_,_+1, .nil=> .nil
 | _,_,n+1, .cons r t=> .cons r (Vals.take n t)
theorem Vals.drop: ∀ {xs:List V} {us:List Value} (n:Nat),Vals xs us→Vals (xs.drop n) (us.drop n)
 | _,_,0,r=>r
 | _,_,_+1, .nil=> .nil
 | _,_,n+1, .cons _ t=>Vals.drop n t
noncomputable def RelO:Option V→Option Value→Prop
 | some v,some u=>RelV v u
 | none,none=>True
 | _,_=>False
noncomputable def KV {κ:Type}:List (κ×V)→List (κ×Value)→Prop:=Paired fun(p:κ×V) (q:κ×Value)=>p.1=q.1∧RelV p.2 q.2
noncomputable def kV:Key→V
 | .inl i=> .int i
 | .inr x=> .str x
inductive HO where
 /-- a list -/
 | lst (xs:List V)
 /-- a tuple (never changes) -/
 | tup (xs:List V)
 /-- a dict whose keys are ints and texts;one whose keys are tuples of ints and texts (the empty one is both) -/
 | dK (kvs:List (Key×V)) | dT (kvs:List (List Key×V))
 /-- a set of ints:its members,its size -/
 | set (S:Int→Bool) (n:Nat)
 /-- an instance of the class at C,its dict at dx,its attributes -/
 | ins (C dx:Addr) (fs:List (Str×V))
 /-- the dict of the instance at x -/
 | own (x:Addr)
 /-- the dict of an exception -/
 | xd (fs:List (Str×V))
 /-- a bound method,f of x -/
 | met (f x:Addr)
 /-- a range object lo,lo+1, .. below hi -/
 | rng (lo hi:Int)
 /-- a thing that is known to the object (the script;a dict while a loop walks it):read,never written while it is so -/
 | frz (o:Obj) (u:HO)
 /-- a code object's table -/
 | tbl (ps:Array Value)
 /-- any other thing,by what is true of its one object (a def of one's own:SetO a S n:=HO.ext fun h=> ..) -/
 | ext (φ:Heap→Prop)
abbrev Hp:=Addr→Option HO
noncomputable def upd (H:Hp) (a:Addr) (o:HO):Hp:=fun b=>if b=a then some o else H b
theorem aE {H:Hp} {a:Addr} {o:HO}:upd H a o a=some o:=by unfold upd;rw [if_pos rfl]
theorem aA {H:Hp} {a b:Addr} {o:HO} (h:b≠a):upd H a o b=H b:=by unfold upd;rw [if_neg h]
theorem aH {H:Hp} {a b:Addr} {o:HO} (h:H a=some o) (h':H b=none):a≠b:=by
 intro e;subst e;rw [h] at h';cases h'
def NoDict (h:Heap) (a:Addr):Prop:= ∃ o,h.get? a=some o∧o.dict=none
section
variable (P:Program) (w:World)
noncomputable def ObjOk (H:Hp) (h:Heap) (a:Addr):HO→Prop
 | .lst xs=>xs.length≤sizeLine∧ ∃ (its:List Value) (n:Nat),Vals xs its∧h.get? a=some { cls:= .type "list",data:= .seq its.toArray n }
 | .tup xs=>xs.length≤sizeLine∧ ∃ its:List Value,Vals xs its∧IsTup h a its.toArray∧NoDict h a
 | .dK kvs=>kvs.length≤sizeLine∧(a==sysModules)=false∧ ∃ vs,KV kvs vs∧h.DictOf (mixKind P w) a vs
 | .dT kvs=>kvs.length≤sizeLine∧(a==sysModules)=false∧ ∃ xs:List (List Key×Addr×Value),
   Paired (fun(p:List Key×V) (q:List Key×Addr×Value)=>p.1=q.1∧H q.2.1=some (.tup (p.1.map kV))∧RelV p.2 q.2.2) kvs xs∧
   ∃ o es ep,h.get? a=some o∧o.ExactDict∧o.data= .dict es ep∧es.toList=xs.map (entryOfKey (tupleKind (mixKind P w)))∧(xs.map (·.1)).Nodup
 | .set S n=>h.SetOf (intKind P w) a S n
 | .ins C dx fs=>H dx=some (.own a)∧fs.length≤1000∧dx≠a∧h.get? a=some (PySem.W.instObj C dx)∧
   ∃ mA,h.Ns1 dx mA∧(∀ f,RelO (fs.lookup f) (mA f))∧PySem.Within mA (fs.map (·.1))
 | .own _=> ∃ o,h.get? a=some o
 | .xd fs=> ∃ mA,h.Ns1 a mA∧ ∀ f,RelO (fs.lookup f) (mA f)
 | .rng lo hi=> ∃ t u v,h.get? a=some { cls:= .type "range",data:= .fields #[.int lo t, .int hi u, .int 1 v] }
 | .frz o u=>h.get? a=some o∧ObjOk H h a u
 | .tbl ps=>h.get? a=some { cls:= .none,data:= .fields ps }
 | .met f x=>h.get? a=some (PySem.W.methodObj (.ref f) (.ref x))
 | .ext φ=>φ h∧(∃ o,h.get? a=some o)∧ ∀ h1 h2:Heap,φ h1→(∀ o,h1.get? a=some o→h2.get? a=some o)→φ h2
def HOk (H:Hp) (h:Heap):Prop:= ∀ a o,H a=some o→ObjOk P w H h a o
end
section
variable {P:Program} {w:World} {H H':Hp} {h h':Heap} {a:Addr} {o:HO}
theorem ObjOk.lt (x:ObjOk P w H h a o):a<h.objs.size:=by
 cases o with
 | lst xs=>obtain⟨_,_,_,_,e⟩:=x;exact Heap.lt_size e
 | tup xs=>obtain⟨_,_,_,p,_⟩:=x;exact p.lt
 | dK kvs=>obtain⟨_,_,_,_,o,_,_,e,_⟩:=x;exact Heap.lt_size e
 | dT kvs=>obtain⟨_,_,_,_,o,_,_,e,_⟩:=x;exact Heap.lt_size e
 | set S n=>obtain⟨o,_,_,_,e,_⟩:=x;exact Heap.lt_size e
 | ins C dx fs=>obtain⟨_,_,_,e,_⟩:=x;exact Heap.lt_size e
 | own y=>obtain⟨_,e⟩:=x;exact Heap.lt_size e
 | xd fs=>obtain⟨_,⟨_,_,_,e,_⟩,_⟩:=x;exact Heap.lt_size e
 | rng lo hi=>obtain⟨_,_,_,e⟩:=x;exact Heap.lt_size e
 | frz ob u=>obtain⟨e,_⟩:=x;exact Heap.lt_size e
 | tbl ps=>exact Heap.lt_size (show h.get? a=some _ from x)
 | met f y=>exact Heap.lt_size (show h.get? a=some _ from x)
 | ext φ=>obtain⟨_,⟨_,e⟩,_⟩:=x;exact Heap.lt_size e
theorem Paired.mapP {α β:Type} {F G:α→β→Prop}: ∀ {l₁:List α} {l₂:List β},Paired F l₁ l₂→(∀ a b,F a b→G a b)→Paired G l₁ l₂
 | _,_, .nil,_=> .nil
 | _,_, .cons r t,f=> .cons (f _ _ r) (Paired.mapP t f)
theorem ObjOk.stay (x:ObjOk P w H h a o) (k: ∀ b u,(b=a∨H b=some (.own a))→h.get? b=some u→h'.get? b=some u)
  (ho: ∀ b,H b=some (.own a)→H' b=some (.own a)) (ht: ∀ b xs,H b=some (.tup xs)→H' b=some (.tup xs)):ObjOk P w H' h' a o:=by
 induction o with
 | lst xs=>obtain⟨z,its,n,r,e⟩:=x;exact⟨z,its,n,r,k _ _ (.inl rfl) e⟩
 | tup xs=>obtain⟨z,its,r,⟨ob,e,c⟩,od,e',d⟩:=x;exact⟨z,its,r,⟨ob,k _ _ (.inl rfl) e,c⟩,od,k _ _ (.inl rfl) e',d⟩
 | dK kvs=>obtain⟨z,y,vs,r,ob,es,ep,e,c⟩:=x;exact⟨z,y,vs,r,ob,es,ep,k _ _ (.inl rfl) e,c⟩
 | dT kvs=>
  obtain⟨z,y,xs,r,ob,es,ep,e,c⟩:=x
  exact⟨z,y,xs,Paired.mapP r fun p q z=>⟨z.1,ht _ _ z.2.1,z.2.2⟩,ob,es,ep,k _ _ (.inl rfl) e,c⟩
 | set S n=>obtain⟨ob,es,ep,t,e,c⟩:=x;exact⟨ob,es,ep,t,k _ _ (.inl rfl) e,c⟩
 | ins C dx fs=>
  obtain⟨d,z,ne,e,mA,⟨od,es,ep,e2,c⟩,r⟩:=x
  exact⟨ho _ d,z,ne,k _ _ (.inl rfl) e,mA,⟨od,es,ep,k _ _ (.inr d) e2,c⟩,r⟩
 | own y=>obtain⟨ob,e⟩:=x;exact⟨ob,k _ _ (.inl rfl) e⟩
 | xd fs=>obtain⟨mA,⟨od,es,ep,e,c⟩,r⟩:=x;exact⟨mA,⟨od,es,ep,k _ _ (.inl rfl) e,c⟩,r⟩
 | rng lo hi=>obtain⟨t,u,v,e⟩:=x;exact⟨t,u,v,k _ _ (.inl rfl) e⟩
 | frz ob u ih=>obtain⟨e,q⟩:=x;exact⟨k _ _ (.inl rfl) e,ih q⟩
 | tbl ps=>
  have e:h.get? a=some { cls:= .none,data:= .fields ps }:=x
  show h'.get? a=some { cls:= .none,data:= .fields ps }
  exact k a _ (.inl rfl) e
 | met f y=>
  have e:h.get? a=some (PySem.W.methodObj (.ref f) (.ref y)):=x
  show h'.get? a=some (PySem.W.methodObj (.ref f) (.ref y))
  exact k a _ (.inl rfl) e
 | ext φ=>obtain⟨p,⟨o,e⟩,st⟩:=x;exact⟨st _ _ p fun o q=>k _ _ (.inl rfl) q,⟨o,k _ _ (.inl rfl) e⟩,st⟩
theorem HOk.lt (x:HOk P w H h) (e:H a=some o):a<h.objs.size:=(x a o e).lt
theorem HOk.fresh (x:HOk P w H h) (e:h.objs.size≤a):H a=none:=by
 cases q:H a with
 | none=>rfl
 | some u=>exact absurd (Nat.lt_of_lt_of_le (x.lt q) e) (Nat.lt_irrefl _)
theorem HOk.kept (x:HOk P w H h) (k: ∀ b u,h.get? b=some u→h'.get? b=some u):HOk P w H h':=fun a o e=>
 (x a o e).stay (fun b u _ q=>k b u q) (fun _ q=>q) fun _ _ q=>q
theorem HOk.laid (x:HOk P w H h) (k: ∀ b u,h.get? b=some u→h'.get? b=some u) (hp:h.objs.size≤a) (new:ObjOk P w (upd H a o) h' a o):HOk P w (upd H a o) h':=fun b u e=>by
 have hn:=x.fresh hp
 by_cases hb:b=a
 ·subst hb;rw [aE] at e;cases e;exact new
 ·rw [aA hb] at e
  exact(x b u e).stay (fun c v _ q=>k c v q) (fun c q=>by rw [aA (aH q hn)];exact q) fun c xs q=>by rw [aA (aH q hn)];exact q
end
def Rd (H:Hp) (a:Addr) (u:HO):Prop:=H a=some u∨ ∃ o,H a=some (.frz o u)
theorem Rd.ok {P:Program} {w:World} {H:Hp} {h:Heap} {a:Addr} {u:HO} (r:Rd H a u) (x:HOk P w H h):ObjOk P w H h a u:=by
 rcases r with r | ⟨o,r⟩
 ·exact x a u r
 ·obtain⟨_,q⟩:=x a _ r
  exact q
noncomputable def Mut:Option HO→Prop
 | some (.lst _)=>True
 | some (.dK _)=>True
 | some (.dT _)=>True
 | some (.set _ _)=>True
 | some (.ins _ _ _)=>True
 | some (.ext _)=>True
 | _=>False
section
variable {P:Program} {w:World} {H:Hp} {h h':Heap} {x e:Addr} {o':HO}
theorem HOk.write (ok:HOk P w H h) (mu:Mut (H x)) (he:e=x∨H e=some (.own x)) (k: ∀ b u,b≠e→h.get? b=some u→h'.get? b=some u) (heo: ∃ u,h'.get? e=some u)
  (new:ObjOk P w (upd H x o') h' x o'):HOk P w (upd H x o') h':=fun b u q=>by
 have nown: ∀ c y,H c=some (.own y)→c≠x:=fun c y r z=>by subst z;rw [r] at mu;exact mu
 have ntup: ∀ c xs,H c=some (.tup xs)→c≠x:=fun c xs r z=>by subst z;rw [r] at mu;exact mu
 by_cases hb:b=x
 ·subst hb;rw [aE] at q;cases q;exact new
 ·rw [aA hb] at q
  by_cases hbe:b=e
  ·have q':H b=some (.own x):=by
    rcases he with z | z
    ·exact absurd (hbe.trans z) hb
    ·rw [hbe];exact z
   rw [q] at q';cases q'
   obtain⟨v,hv⟩:=heo
   exact⟨v,by rw [hbe];exact hv⟩
  ·refine(ok b u q).stay (fun c v hc r=>k c v ?_ r) (fun c r=>by rw [aA (nown c b r)];exact r) fun c xs r=>by rw [aA (ntup c xs r)];exact r
   rcases hc with rfl | hc
   ·exact hbe
   ·rintro rfl
    rcases he with z | z
    ·exact nown c b hc z
    ·rw [hc] at z;cases z;exact hb rfl
end
structure Un (fs ex:List Addr) (H H':Hp) (h h':Heap):Prop where
 keep: ∀ b o,h.get? b=some o→H b=none→b∉fs→b∉ex→h'.get? b=some o
 slot: ∀ b o,h.get? b=some o→H b=none→b∈fs→b∉ex→ ∃ sl,h'.get? b=some { o with slots:=sl }
 free: ∀ b o,h.get? b=some o→H b=none→b∉ex→H' b=none
 there: ∀ b o,h.get? b=some o→b∉ex→ ∃ o',h'.get? b=some o'
 tups: ∀ b xs,H b=some (.tup xs)→H' b=some (.tup xs)
 frzs: ∀ b o u,H b=some (.frz o u)→H' b=some (.frz o u)
 tbls: ∀ b ps,H b=some (.tbl ps)→ ∃ more,H' b=some (.tbl (ps++more))
section
variable {fs fs' ex ex':List Addr} {H H1 H2:Hp} {h h1 h2 h':Heap} {a x e:Addr} {o:HO}
theorem Un.any (u:Un fs ex H H1 h h1) {b:Addr} {ob:Obj} (q:h.get? b=some ob) (n:H b=none) (hx:b∉ex): ∃ sl,h1.get? b=some { ob with slots:=sl }:=by
 by_cases hb:b∈fs
 ·exact u.slot b ob q n hb hx
 ·exact⟨ob.slots,u.keep b ob q n hb hx⟩
theorem Un.kept (k: ∀ b u,h.get? b=some u→h'.get? b=some u):Un fs ex H H h h':=
 ⟨fun b ob q _ _ _=>k b ob q,fun b ob q _ _ _=>⟨ob.slots,k b ob q⟩,fun _ _ _ n _=>n,fun b ob q _=>⟨ob,k b ob q⟩,fun _ _ q=>q,fun _ _ _ q=>q,fun _ ps q=>⟨#[],by rw [q];simp⟩⟩
theorem Un.refl:Un fs ex H H h h:=Un.kept fun _ _ q=>q
theorem Un.laid (k: ∀ b u,h.get? b=some u→h'.get? b=some u) (hp:h.objs.size≤a) (hn:H a=none):Un fs ex H (upd H a o) h h' where
 keep:=fun b u q _ _ _=>k b u q
 slot:=fun b u q _ _ _=>⟨u.slots,k b u q⟩
 free:=fun b u q n _=>by rw [aA (Nat.ne_of_lt (Nat.lt_of_lt_of_le (Heap.lt_size q) hp))];exact n
 there:=fun b u q _=>⟨u,k b u q⟩
 tups:=fun b xs q=>by rw [aA (aH q hn)];exact q
 frzs:=fun b u xs q=>by rw [aA (aH q hn)];exact q
 tbls:=fun b ps q=>⟨#[],by rw [aA (aH q hn),q];simp⟩
theorem Un.write (mu:Mut (H x)) (he:e=x∨H e=some (.own x)) (k: ∀ b u,b≠e→h.get? b=some u→h'.get? b=some u) (heo: ∃ u,h'.get? e=some u):Un fs ex H (upd H x o) h h':=by
 have hx: ∀ b,H b=none→b≠x:=fun b n z=>by subst z;rw [n] at mu;exact mu
 have hb: ∀ b,H b=none→b≠e:=fun b n z=>by
  subst z
  rcases he with r | r
  ·exact hx b n r
  ·rw [n] at r;cases r
 have hm: ∀ b u,H b=some u→ ¬ Mut (some u)→b≠x:=fun b u q nm z=>by subst z;rw [q] at mu;exact nm mu
 refine⟨fun b u q n _ _=>k b u (hb b n) q,fun b u q n _ _=>⟨u.slots,k b u (hb b n) q⟩,fun b u q n _=>by rw [aA (hx b n)];exact n,fun b u q _=> ?_,
  fun b xs q=>by rw [aA (hm b _ q fun z=>z)];exact q,fun b u xs q=>by rw [aA (hm b _ q fun z=>z)];exact q,fun b ps q=>⟨#[],by rw [aA (hm b _ q fun z=>z),q];simp⟩⟩
 by_cases hbe:b=e
 ·subst hbe;exact heo
 ·exact⟨u,k b u hbe q⟩
end
noncomputable def trk (h:Heap) (H:Hp):List Addr:=(List.range h.objs.size).filter fun a=>(H a).isSome
noncomputable def hidT (h:Heap) (H:Hp):Heap:=PySem.W.hideAll h (trk h H)
theorem kC (h:Heap) (H:Hp):(hidT h H).objs.size=h.objs.size:=PySem.W.hideAll_size _ _
theorem nL {h:Heap} {H:Hp} {b:Addr} {o:Obj} (e:h.get? b=some o) (n:H b=none):(hidT h H).get? b=some o:=
 PySem.W.hideAll_get _ e fun hm=>by
  have q:(H b).isSome=true:=(List.mem_filter.mp hm).2
  rw [n] at q;simp at q
theorem gI {h:Heap} {H:Hp} {b:Addr} {o:Obj} (e:(hidT h H).get? b=some o):h.get? b=some o∧H b=none:=by
 have e':h.get? b=some o:=PySem.W.of_hideAll (trk h H) e
 refine⟨e', ?_⟩
 cases q:H b with
 | none=>rfl
 | some x=>
  have hm:b∈trk h H:=List.mem_filter.mpr ⟨zPd (Heap.lt_size e'),by simp [q]⟩
  have z:(hidT h H).get? b=none:=PySem.W.hideAll_none (trk h H) hm
  rw [z] at e;cases e
noncomputable def allNews (g h:Heap) (L:Addr):List (Addr×Obj):=(List.range h.objs.size).filterMap fun a=>if a=L∨(g.get? a).isSome=true then none else(h.get? a).map fun o=>(a,o)
noncomputable def rest (g h:Heap) (L d:Addr):List (Addr×Obj):=(allNews g h L).filter fun p=>decide (p.1≠d)
structure Mod (K:PySem.W.Frag) (mg:Str→Option Value) (base:Heap):Prop where
 kin:K.In base
 glob:base.Ns mainGlobals mg
 blt: ∃ mb,base.Ns builtinsNs mb∧ ∀ x:Str,x≠"__name__"→mb x=bootBuiltins x
 nolimit:base.NoLimit
structure Cx where
 prog:Program
 w:World
 K:PySem.W.Frag
 mg:Str→Option Value
 base:Heap
 A:Around
 N:List Str
 s₀:Shared
 H₀:Hp
 env:Env
 outer:List Env
 stack:List Env
 ex:List Addr
 fn:Str→Bool
 calm:Bool
 pn:List (Addr×Obj)
 xe:Value→Shared→Prop
noncomputable def frs (l:List Env):List Addr:=l.filterMap (·.frame)
noncomputable abbrev Cx.fs (X:Cx):List Addr:=frs X.outer
def Vis (sc:Scope) (x:Str):Prop:=sc.names.lookup x=some .local∨sc.names.lookup x=some .cell∨sc.names.lookup x=some .free
def Loc (sc:Scope) (x:Str):Prop:=sc.names.lookup x=some .local∨sc.names.lookup x=some .cell
def Look (env:Env) (h:Heap) (m:Str→Option Value) (x:Str) (u:Value):Prop:=
 (env.kindOf x=some .local∧m x=some u)∨((env.kindOf x=some .cell∨env.kindOf x=some .free)∧ ∃ c,env.cells.lookup x=some c∧h.IsCell c (some u))
structure Cx.Ok (X:Cx):Prop where
 mod:Mod X.K X.mg X.base
 kind:X.env.scope.kind= .function
 glob:X.env.globals=mainGlobals
 blt:X.env.builtins=builtinsNs
 above:X.s₀.heap.objs.size≤X.env.locals
 inj: ∀ x y c,X.env.cells.lookup x=some c→X.env.cells.lookup y=some c→x=y
 has: ∀ x,(X.env.kindOf x=some .cell∨X.env.kindOf x=some .free)→ ∃ c,X.env.cells.lookup x=some c
 cab: ∀ x c,X.fn x=true→X.env.cells.lookup x=some c→X.s₀.heap.objs.size≤c
 hd:X.calm=true→X.A.handled=none
 frames:X.A.frames=some X.stack
 stk:X.stack=X.outer∨(X.stack=X.env::X.outer∧X.env.frame=some X.env.locals)
 exf: ∀ b∈X.ex,b≠X.env.locals∧ ∀ x c,X.env.cells.lookup x=some c→c≠b
 bs: ∀ b o,X.base.get? b=some o→X.s₀.heap.get? b=some o∧X.H₀ b=none
 bsz:X.base.objs.size≤X.s₀.heap.objs.size
 noex: ∀ b o,X.base.get? b=some o→b∉X.ex
 exfs: ∀ b∈X.ex,b∉X.fs
 funs:X.s₀.heap.FunFrames X.base X.outer
 frf: ∀ b∈X.fs,X.H₀ b=none
structure Inv (X:Cx) (pins:List (Addr×Obj)) (σ:List (Option V)) (H:Hp) (s:Shared):Prop where
 ok:X.Ok
 os:s.os=X.s₀.os
 bare:AllBare s.gens
 base:Un X.fs X.ex X.H₀ H X.s₀.heap s.heap
 loc: ∃ m,s.heap.Ns X.env.locals m∧ ∀ (i:Nat) (x:Str) (v:V),X.N[i]? =some x→σ[i]? =some (some v)→Vis X.env.scope x→ ∃ u,RelV v u∧Look X.env s.heap m x u
 cell: ∀ x c,X.env.cells.lookup x=some c→ ∃ v,s.heap.IsCell c v
 free:H X.env.locals=none
 freeC: ∀ x c,X.env.cells.lookup x=some c→H c=none
 pin: ∀ p∈X.pn++pins,s.heap.get? p.1=some p.2∧H p.1=none∧p.1≠X.env.locals∧p.1∉X.fs∧ ∀ v,p.2.data≠ .cell v
 hok:HOk X.prog X.w H s.heap
 len:σ.length=X.N.length
section
variable {X:Cx} {pins:List (Addr×Obj)} {σ:List (Option V)} {H H':Hp} {s:Shared} {h':Heap}
theorem Cx.Ok.nofr (ok:X.Ok) {b:Addr} {o:Obj} (e:X.base.get? b=some o):b∉X.fs:=fun hb=>by
 have:=(ok.funs.mem hb).1
 rw [e] at this;cases this
theorem Inv.bs (I:Inv X pins σ H s): ∀ b o,X.base.get? b=some o→s.heap.get? b=some o∧H b=none:=fun b o e=>
 ⟨I.base.keep b o (I.ok.bs b o e).1 (I.ok.bs b o e).2 (I.ok.nofr e) (I.ok.noex b o e),I.base.free b o (I.ok.bs b o e).1 (I.ok.bs b o e).2 (I.ok.noex b o e)⟩
theorem Inv.bk (I:Inv X pins σ H s): ∀ b o,X.base.get? b=some o→s.heap.get? b=some o:=fun b o e=>(I.bs b o e).1
theorem Inv.mod (I:Inv X pins σ H s):Mod X.K X.mg X.base:=I.ok.mod
theorem Inv.kIn (I:Inv X pins σ H s):X.K.In s.heap:=I.ok.mod.kin.keeps I.bk
theorem Inv.lt (I:Inv X pins σ H s):X.env.locals<s.heap.objs.size:=let ⟨_,hn,_⟩:=I.loc;hn.lt
theorem Inv.sz (I:Inv X pins σ H s):X.s₀.heap.objs.size≤s.heap.objs.size:=Nat.le_trans I.ok.above (Nat.le_of_lt I.lt)
theorem Inv.nofs (I:Inv X pins σ H s) {a:Addr} (h:s.heap.objs.size≤a):a∉X.fs:=fun hb=>by
 obtain⟨_,o,ho,_⟩:=I.ok.funs.mem hb
 exact absurd (Nat.lt_of_lt_of_le (Heap.lt_size ho) (Nat.le_trans I.sz h)) (Nat.lt_irrefl _)
theorem Inv.cne (I:Inv X pins σ H s): ∀ x c,X.env.cells.lookup x=some c→c≠X.env.locals:=fun x c e z=>by
 obtain⟨v,o,ho,hd⟩:=I.cell x c e
 obtain⟨m,⟨o',es,ep,ho',hd',_⟩,_⟩:=I.loc
 rw [z,ho'] at ho;cases ho;rw [hd'] at hd;cases hd
theorem Inv.funs (I:Inv X pins σ H s):s.heap.FunFrames X.base X.outer:=by
 have all: ∀ (l:List Env),(∀ b∈frs l,b∈X.fs)→X.s₀.heap.FunFrames X.base l→s.heap.FunFrames X.base l:=by
  intro l
  induction l with
  | nil=>intro _ _;trivial
  | cons env r ih=>
   intro hs hl
   obtain⟨hk,⟨L,o,hf,hn,ho,hd⟩,hr⟩:=hl
   have hL:L∈X.fs:=hs L (by unfold frs;rw [List.filterMap_cons,hf];exact List.mem_cons_self)
   obtain⟨sl,e⟩:=I.base.slot L o ho (I.ok.frf L hL) hL fun z=>I.ok.exfs L z hL
   exact⟨hk,⟨L,_,hf,hn,e,hd⟩,ih (fun b hb=>hs b (by unfold frs;rw [List.filterMap_cons,hf];exact List.mem_cons_of_mem _ hb)) hr⟩
 exact all X.outer (fun _ hb=>hb) I.ok.funs
theorem Inv.stack (I:Inv X pins σ H s):s.heap.FunFrames X.base X.stack:=by
 rcases I.ok.stk with e | ⟨e,hf⟩
 ·rw [e];exact I.funs
 ·rw [e]
  obtain⟨m,hn,_⟩:=I.loc
  refine .cons (by rw [I.ok.kind];decide) hf hn ?_ I.funs
  exact Heap.get?_none_of_le (Nat.le_trans I.ok.bsz I.ok.above)
theorem Inv.stkSub (I:Inv X pins σ H s): ∀ b∈frs X.stack,b∈X.env.locals::X.fs:=fun b hb=>by
 rcases I.ok.stk with e | ⟨e,hf⟩
 ·rw [e] at hb;exact List.mem_cons_of_mem _ hb
 ·rw [e] at hb
  unfold frs at hb
  rw [List.filterMap_cons,hf] at hb
  exact hb
theorem Inv.stkFree (I:Inv X pins σ H s): ∀ b∈frs X.stack,H b=none:=fun b hb=>by
 rcases List.mem_cons.mp (I.stkSub b hb) with e | hb
 ·rw [e];exact I.free
 ·obtain⟨_,o,ho,_⟩:=I.ok.funs.mem hb
  exact I.base.free b o ho (I.ok.frf b hb) fun z=>I.ok.exfs b z hb
theorem Inv.step {g':Array GenState} {t':Nat} {d':Drawn} {ch:List Addr} (I:Inv X pins σ H s)
  (hch: ∀ b∈ch,(b∈X.ex∨X.s₀.heap.objs.size≤b)∧b≠X.env.locals∧(∀ x c,X.env.cells.lookup x=some c→c≠b)∧ ∀ p∈X.pn++pins,p.1≠b)
  (keep: ∀ b o,b≠X.env.locals→b∉X.fs→b∉ch→s.heap.get? b=some o→H b=none→h'.get? b=some o)
  (slot: ∀ b o,b≠X.env.locals→b∈X.fs→b∉ch→s.heap.get? b=some o→H b=none→ ∃ sl,h'.get? b=some { o with slots:=sl }) (free: ∀ b o,b∉ch→s.heap.get? b=some o→H b=none→H' b=none)
  (there: ∀ b o,b∉ch→s.heap.get? b=some o→ ∃ o',h'.get? b=some o')
  (tups: ∀ b xs,H b=some (.tup xs)→H' b=some (.tup xs)) (frzs: ∀ b o u,H b=some (.frz o u)→H' b=some (.frz o u)) (tbls: ∀ b ps,H b=some (.tbl ps)→ ∃ more,H' b=some (.tbl (ps++more)))
  (ns: ∀ m,s.heap.Ns X.env.locals m→h'.Ns X.env.locals m) (hok:HOk X.prog X.w H' h') (hg:AllBare g'):
  Inv X pins σ H' { s with heap:=h',gens:=g',drawn:=d',toks:=t' }:=by
 have neL: ∀ b o,X.s₀.heap.get? b=some o→b≠X.env.locals:=fun b o e=>Nat.ne_of_lt (Nat.lt_of_lt_of_le (Heap.lt_size e) I.ok.above)
 have neC: ∀ b o,X.s₀.heap.get? b=some o→b∉X.ex→b∉ch:=fun b o e hx hb=>by
  rcases(hch b hb).1 with z | z
  ·exact hx z
  ·exact absurd (Nat.lt_of_lt_of_le (Heap.lt_size e) z) (Nat.lt_irrefl _)
 have cellK: ∀ x c,X.env.cells.lookup x=some c→ ∀ v,s.heap.IsCell c v→h'.IsCell c v:=fun x c e v ⟨o,ho,hd⟩=>by
  have nch:c∉ch:=fun z=>(hch c z).2.2.1 x c e rfl
  by_cases hc:c∈X.fs
  ·obtain⟨sl,q⟩:=slot c o (I.cne x c e) hc nch ho (I.freeC x c e)
   exact⟨_,q,hd⟩
  ·exact⟨o,keep c o (I.cne x c e) hc nch ho (I.freeC x c e),hd⟩
 refine⟨I.ok,I.os,hg,⟨fun b o e n hb hx=> ?_,fun b o e n hb hx=> ?_,fun b o e n hx=> ?_,fun b o e hx=> ?_,fun b xs e=>tups b xs (I.base.tups b xs e),fun b o xs e=>frzs b o xs (I.base.frzs b o xs e),fun b ps e=> ?_⟩, ?_,fun x c e=> ?_, ?_,fun x c e=> ?_,fun p hp=> ?_,hok,I.len⟩
 ·exact keep b o (neL b o e) hb (neC b o e hx) (I.base.keep b o e n hb hx) (I.base.free b o e n hx)
 ·obtain⟨sl,e1⟩:=I.base.slot b o e n hb hx
  obtain⟨sl',e2⟩:=slot b _ (neL b o e) hb (neC b o e hx) e1 (I.base.free b o e n hx)
  exact⟨sl',e2⟩
 ·obtain⟨o',e1⟩:=I.base.there b o e hx
  exact free b o' (neC b o e hx) e1 (I.base.free b o e n hx)
 ·obtain⟨o',e1⟩:=I.base.there b o e hx
  exact there b o' (neC b o e hx) e1
 ·obtain⟨m1,e1⟩:=I.base.tbls b ps e
  obtain⟨m2,e2⟩:=tbls b _ e1
  exact⟨m1++m2,by rw [e2,Array.append_assoc]⟩
 ·obtain⟨m,hn,hl⟩:=I.loc
  refine⟨m,ns m hn,fun i x v e1 e2 e3=> ?_⟩
  obtain⟨u,r,l⟩:=hl i x v e1 e2 e3
  refine⟨u,r, ?_⟩
  rcases l with l | ⟨k,c,e,z⟩
  ·exact .inl l
  ·exact .inr ⟨k,c,e,cellK x c e _ z⟩
 ·obtain⟨v,z⟩:=I.cell x c e
  exact⟨v,cellK x c e v z⟩
 ·obtain⟨m,⟨o,_,_,ho,_⟩,_⟩:=I.loc
  exact free _ o (fun z=>(hch _ z).2.1 rfl) ho I.free
 ·obtain⟨v,o,ho,hd⟩:=I.cell x c e
  exact free c o (fun z=>(hch c z).2.2.1 x c e rfl) ho (I.freeC x c e)
 ·obtain⟨e,n,ne,nf,d⟩:=I.pin p hp
  have nch:p.1∉ch:=fun z=>(hch p.1 z).2.2.2 p hp rfl
  exact⟨keep p.1 p.2 ne nf nch e n,free p.1 p.2 nch e n,ne,nf,d⟩
theorem Inv.un {t':Nat} (I:Inv X pins σ H s) (u:Un X.fs [] H H' s.heap h') (hok:HOk X.prog X.w H' h'):Inv X pins σ H' { s with heap:=h',toks:=t' }:=by
 obtain⟨m,⟨o,es,ep,ho,r⟩,_⟩:=id I.loc
 obtain⟨sl,hL⟩:=u.any ho I.free (by simp)
 exact I.step (g':=s.gens) (d':=s.drawn) (ch:=[]) (fun _ z=>nomatch z) (fun b o _ hb _ e n=>u.keep b o e n hb (by simp)) (fun b o _ hb _ e n=>u.slot b o e n hb (by simp)) (fun b o _ e n=>u.free b o e n (by simp)) (fun b o _ e=>u.there b o e (by simp)) u.tups u.frzs u.tbls (fun m' hm=>by
  obtain⟨o',es',ep',ho',r'⟩:=hm
  rw [ho] at ho';cases ho'
  exact⟨_,es',ep',hL,r'⟩) hok I.bare
theorem Inv.call {g':Array GenState} {t':Nat} {d':Drawn} {ch:List Addr} (I:Inv X pins σ H s) (u:Un (frs X.stack) ch H H' s.heap h') (hok:HOk X.prog X.w H' h') (hg:AllBare g')
  (hch: ∀ b∈ch,(b∈X.ex∨X.s₀.heap.objs.size≤b)∧b≠X.env.locals∧(∀ x c,X.env.cells.lookup x=some c→c≠b)∧ ∀ p∈X.pn++pins,p.1≠b):
  Inv X pins σ H' { s with heap:=h',gens:=g',drawn:=d',toks:=t' }:=by
 obtain⟨m,⟨o,es,ep,ho,r⟩,_⟩:=id I.loc
 obtain⟨sl,hL⟩:=u.any ho I.free fun z=>(hch _ z).2.1 rfl
 exact I.step (ch:=ch) hch (fun b o hL hb hc e n=>u.keep b o e n (fun z=>(List.mem_cons.mp (I.stkSub b z)).elim hL hb) hc) (fun b o _ _ hc e n=>u.any e n hc) (fun b o hc e n=>u.free b o e n hc) (fun b o hc e=>u.there b o e hc) u.tups u.frzs u.tbls (fun m' hm=>by
  obtain⟨o',es',ep',ho',r'⟩:=hm
  rw [ho] at ho';cases ho'
  exact⟨_,es',ep',hL,r'⟩) hok hg
theorem Inv.turned {t':Nat} {it:Addr} (I:Inv X pins σ H s) (k: ∀ b o,b≠it→s.heap.get? b=some o→h'.get? b=some o) (hn:H it=none) (hL:it≠X.env.locals)
  (h1:it∈X.ex∨X.s₀.heap.objs.size≤it) (h2: ∀ x c,X.env.cells.lookup x=some c→c≠it) (h3: ∀ p∈X.pn++pins,p.1≠it):Inv X pins σ H { s with heap:=h',toks:=t' }:=by
 have nit: ∀ b u,H b=some u→b≠it:=fun b u e z=>by rw [z,hn] at e;cases e
 refine I.step (g':=s.gens) (d':=s.drawn) (ch:=[it]) (fun b hb=> ?_) (fun b o _ _ hc e _=>k b o (fun z=>hc (by simp [z])) e) (fun b o _ _ hc e _=>⟨o.slots,k b o (fun z=>hc (by simp [z])) e⟩) (fun _ _ _ _ n=>n)
  (fun b o hc e=>⟨o,k b o (fun z=>hc (by simp [z])) e⟩) (fun _ _ e=>e) (fun _ _ _ e=>e) (fun b ps e=>⟨#[],by rw [e];simp⟩) (fun m hm=> ?_) (fun b u e=> ?_) I.bare
 ·have e:b=it:=by simpa using hb
  subst e
  exact⟨h1,hL,h2,h3⟩
 ·obtain⟨o,es,ep,ho,r⟩:=hm
  exact⟨o,es,ep,k _ o (Ne.symm hL) ho,r⟩
 ·refine(I.hok b u e).stay (fun c v hc q=>k c v ?_ q) (fun _ q=>q) fun _ _ q=>q
  rcases hc with z | z
  ·rw [z];exact nit b u e
  ·exact nit c _ z
theorem Inv.tok (I:Inv X pins σ H s) (t:Nat):Inv X pins σ H { s with toks:=t }:=I.un (h':=s.heap) (t':=t) Un.refl I.hok
theorem Inv.kept {t':Nat} (I:Inv X pins σ H s) (k: ∀ b u,s.heap.get? b=some u→h'.get? b=some u):Inv X pins σ H { s with heap:=h',toks:=t' }:=I.un (Un.kept k) (I.hok.kept k)
theorem Inv.laid {a:Addr} {o:HO} {t':Nat} (I:Inv X pins σ H s) (k: ∀ b u,s.heap.get? b=some u→h'.get? b=some u) (hp:s.heap.objs.size≤a) (new:ObjOk X.prog X.w (upd H a o) h' a o):
  Inv X pins σ (upd H a o) { s with heap:=h',toks:=t' }:=I.un (Un.laid k hp (I.hok.fresh hp)) (I.hok.laid k hp new)
theorem Inv.write {x e:Addr} {o:HO} {t':Nat} (I:Inv X pins σ H s) (mu:Mut (H x)) (he:e=x∨H e=some (.own x)) (k: ∀ b u,b≠e→s.heap.get? b=some u→h'.get? b=some u) (heo: ∃ u,h'.get? e=some u)
  (new:ObjOk X.prog X.w (upd H x o) h' x o):Inv X pins σ (upd H x o) { s with heap:=h',toks:=t' }:=I.un (Un.write mu he k heo) (I.hok.write mu he k heo new)
theorem Inv.pins_of {pins':List (Addr×Obj)} (I:Inv X pins σ H s) (h: ∀ p∈pins',s.heap.get? p.1=some p.2∧H p.1=none∧p.1≠X.env.locals∧p.1∉X.fs∧ ∀ v,p.2.data≠ .cell v):Inv X pins' σ H s:=
 ⟨I.ok,I.os,I.bare,I.base,I.loc,I.cell,I.free,I.freeC,fun p hp=>(List.mem_append.mp hp).elim (fun z=>I.pin p (List.mem_append_left _ z)) (h p),I.hok,I.len⟩
theorem eJ {N:List Str} (hN:N.Nodup) {i j:Nat} {x:Str} (a:N[i]? =some x) (b:N[j]? =some x):i=j:=by
 obtain⟨h1,e1⟩:=List.getElem?_eq_some_iff.mp a
 obtain⟨h2,e2⟩:=List.getElem?_eq_some_iff.mp b
 exact(List.getElem_inj hN).mp (e1.trans e2.symm)
theorem eZ {M:Model} {A:Around} {E:Value→Shared→Prop} {i:Nat} {x:Str} {v:V} {u:Value} {Q:Unit→Shared→Prop} (I:Inv X pins σ H s) (hN:X.N.Nodup) (hi:X.N[i]? =some x) (hx:Loc X.env.scope x) (r:RelV v u)
  (h: ∀ s',Inv X pins (σ.set i (some v)) H s'→(∃ a,Heap.SameBut a s.heap s'.heap∧(a=X.env.locals∨X.env.cells.lookup x=some a))→Q () s') (hf:X.fn x=true∨X.env.scope.names.lookup x=some .local:=by first | exact .inl rfl | exact .inr rfl | assumption):wpAny M A (storeName X.env x u) Q E s:=by
 obtain⟨m,hn,hl⟩:=id I.loc
 have hcls:(X.env.scope.kind== .class||(X.env.scope.kind== .module&&X.env.locals != X.env.globals))=false:=by rw [I.ok.kind];rfl
 have hiσ:i<σ.length:=by rw [I.len];exact(List.getElem?_eq_some_iff.mp hi).1
 have cne:=I.cne
 have tracked: ∀ {a:Addr} {h':Heap},(∃ o,s.heap.get? a=some o∧H a=none)→Heap.SameBut a s.heap h'→HOk X.prog X.w H h':=fun {a h'} ha hs b ob e=>by
  obtain⟨_,_,hfree⟩:=ha
  refine(I.hok b ob e).stay (fun c w' hc q=>(hs.2 c ?_).trans q) (fun _ q=>q) fun _ _ q=>q
  rintro rfl
  rcases hc with rfl | hc
  ·rw [hfree] at e;cases e
  ·rw [hfree] at hc;cases hc
 rcases hx with hk | hk
 ·refine wpAny_storeName_local hk hn (fun h' hn' hs=> ?_) hcls
  obtain⟨oL,_,_,hoL,_⟩:=id hn
  refine h _ ⟨I.ok,I.os,I.bare,⟨fun b o e n hb hx=> ?_,fun b o e n hb hx=> ?_,I.base.free,fun b o e hx=> ?_,I.base.tups,I.base.frzs,I.base.tbls⟩,⟨_,hn',fun j y v' e1 e2 e3=> ?_⟩,fun y c e=> ?_,I.free,I.freeC,fun p hp=> ?_,tracked ⟨oL,hoL,I.free⟩ hs,by simpa using I.len⟩ ⟨_,hs, .inl rfl⟩
  ·exact(hs.2 b (Nat.ne_of_lt (Nat.lt_of_lt_of_le (Heap.lt_size e) I.ok.above))).trans (I.base.keep b o e n hb hx)
  ·obtain⟨sl,e1⟩:=I.base.slot b o e n hb hx
   exact⟨sl,(hs.2 b (Nat.ne_of_lt (Nat.lt_of_lt_of_le (Heap.lt_size e) I.ok.above))).trans e1⟩
  ·obtain⟨o',e1⟩:=I.base.there b o e hx
   exact⟨o',(hs.2 b (Nat.ne_of_lt (Nat.lt_of_lt_of_le (Heap.lt_size e) I.ok.above))).trans e1⟩
  ·by_cases hj:j=i
   ·subst hj
    rw [hi] at e1;cases e1
    rw [List.getElem?_set_self hiσ] at e2
    cases e2
    exact⟨u,r, .inl ⟨hk,by simp⟩⟩
   ·rw [List.getElem?_set_ne (Ne.symm hj)] at e2
    obtain⟨u',r',q⟩:=hl j y v' e1 e2 e3
    refine⟨u',r', ?_⟩
    rcases q with ⟨k,e⟩ | ⟨k,c,e,z⟩
    ·refine .inl ⟨k, ?_⟩
     have:y≠x:=fun e=>hj (eJ hN e1 (e▸hi))
     simp [this,e]
    ·exact .inr ⟨k,c,e,z.sameBut hs (cne y c e)⟩
  ·obtain⟨w',z⟩:=I.cell y c e
   exact⟨w',z.sameBut hs (cne y c e)⟩
  ·obtain⟨e,n,ne,nf,d⟩:=I.pin p hp
   exact⟨(hs.2 p.1 ne).trans e,n,ne,nf,d⟩
 ·have hfn:X.fn x=true:=by
   rcases hf with z | z
   ·exact z
   ·rw [z] at hk;cases hk
  obtain⟨c,hc⟩:=I.ok.has x (.inl hk)
  obtain⟨w',z⟩:=I.cell x c hc
  refine wpAny_storeName_cell I.ok.kind hk hc z (fun h' hc' hs=> ?_)
  obtain⟨oc,hoc,hocd⟩:=id z
  refine h { s with heap:=h' } ⟨I.ok,I.os,I.bare,⟨fun b o e n hb hx=> ?_,fun b o e n hb hx=> ?_,I.base.free,fun b o e hx=> ?_,I.base.tups,I.base.frzs,I.base.tbls⟩,⟨m,hn.sameBut hs (Ne.symm (cne x c hc)),fun j y v' e1 e2 e3=> ?_⟩,fun y c' e=> ?_,I.free,I.freeC,fun p hp=> ?_,tracked ⟨oc,hoc,I.freeC x c hc⟩ hs,by simpa using I.len⟩ ⟨c,hs, .inr hc⟩
  ·exact(hs.2 b (Nat.ne_of_lt (Nat.lt_of_lt_of_le (Heap.lt_size e) (I.ok.cab x c hfn hc)))).trans (I.base.keep b o e n hb hx)
  ·obtain⟨sl,e1⟩:=I.base.slot b o e n hb hx
   exact⟨sl,(hs.2 b (Nat.ne_of_lt (Nat.lt_of_lt_of_le (Heap.lt_size e) (I.ok.cab x c hfn hc)))).trans e1⟩
  ·obtain⟨o',e1⟩:=I.base.there b o e hx
   exact⟨o',(hs.2 b (Nat.ne_of_lt (Nat.lt_of_lt_of_le (Heap.lt_size e) (I.ok.cab x c hfn hc)))).trans e1⟩
  ·by_cases hj:j=i
   ·subst hj
    rw [hi] at e1;cases e1
    rw [List.getElem?_set_self hiσ] at e2
    cases e2
    exact⟨u,r, .inr ⟨.inl hk,c,hc,hc'⟩⟩
   ·rw [List.getElem?_set_ne (Ne.symm hj)] at e2
    obtain⟨u',r',q⟩:=hl j y v' e1 e2 e3
    refine⟨u',r', ?_⟩
    rcases q with q | ⟨k,c',e,z'⟩
    ·exact .inl q
    ·refine .inr ⟨k,c',e,z'.sameBut hs ?_⟩
     rintro rfl
     exact hj (eJ hN e1 (I.ok.inj _ _ _ e hc▸hi))
  ·by_cases hcc:c'=c
   ·subst hcc;exact⟨_,hc'⟩
   ·obtain⟨w2,z2⟩:=I.cell y c' e
    exact⟨w2,z2.sameBut hs hcc⟩
  ·obtain⟨e,n,ne,nf,d⟩:=I.pin p hp
   refine⟨(hs.2 p.1 ?_).trans e,n,ne,nf,d⟩
   intro q
   rw [q,hoc] at e
   have q':oc=p.2:=Option.some.inj e
   exact d w' (by rw [←q'];exact hocd)
theorem a9 {M:Model} {A:Around} {E:Value→Shared→Prop} {i:Nat} {x:Str} {v:V} {u:Value} {Q:Unit→Shared→Prop} (I:Inv X pins σ H s) (hN:X.N.Nodup) (hi:X.N[i]? =some x) (hx:Loc X.env.scope x) (r:RelV v u)
  (h: ∀ s',Inv X pins (σ.set i (some v)) H s'→Q () s') (hf:X.fn x=true∨X.env.scope.names.lookup x=some .local:=by first | exact .inl rfl | exact .inr rfl | assumption):wpAny M A (storeName X.env x u) Q E s:=
 eZ I hN hi hx r (fun s' I' _=>h s' I') hf
theorem Inv.call' {s':Shared} {ch:List Addr} (I:Inv X pins σ H s) (ho:s'.os=s.os) (u:Un (frs X.stack) ch H H' s.heap s'.heap) (hok:HOk X.prog X.w H' s'.heap) (hg:AllBare s'.gens)
  (hch: ∀ b∈ch,(b∈X.ex∨X.s₀.heap.objs.size≤b)∧b≠X.env.locals∧(∀ x c,X.env.cells.lookup x=some c→c≠b)∧ ∀ p∈X.pn++pins,p.1≠b):Inv X pins σ H' s':=by
 obtain⟨h',g',d',t',o'⟩:=s'
 have e:o'=s.os:=ho
 subst e
 exact I.call (g':=g') (t':=t') (d':=d') u hok hg hch
end
abbrev XK:=Value→Option Addr→Hp→Prop
abbrev St:=List (Option V)
abbrev VK:=V→Hp→Prop
abbrev TE:=St→Hp→VK→Prop
abbrev TT:=St→Hp→(Bool→Hp→Prop)→Prop
abbrev TA:=St→Hp→(List V→Hp→Prop)→Prop
structure Ends where
 nx:St→Hp→Prop
 rt:VK
 bk:St→Hp→Prop:=fun _ _=>False
 ct:St→Hp→Prop:=fun _ _=>False
abbrev TS:=Ends→St→Hp→Prop
def EP (X:Cx) (pins:List (Addr×Obj)) (σ:St) (Q:VK) (u:Value) (s':Shared):Prop:= ∃ v H',Inv X pins σ H' s'∧RelV v u∧Q v H'
def TP (X:Cx) (pins:List (Addr×Obj)) (σ:St) (Q:Bool→Hp→Prop) (b:Bool) (s':Shared):Prop:= ∃ H',Inv X pins σ H' s'∧Q b H'
def AP (X:Cx) (pins:List (Addr×Obj)) (σ:St) (Q:List V→Hp→Prop) (us:List Value) (s':Shared):Prop:= ∃ vs H',Inv X pins σ H' s'∧Vals vs us∧Q vs H'
def SP (X:Cx) (pins:List (Addr×Obj)) (D:Ends) (f:Flow) (s':Shared):Prop:=
 match f with
 | .next=> ∃ σ' H',Inv X pins σ' H' s'∧D.nx σ' H'
 | .brk=> ∃ σ' H',Inv X pins σ' H' s'∧D.bk σ' H'
 | .cont=> ∃ σ' H',Inv X pins σ' H' s'∧D.ct σ' H'
 | .ret u=> ∃ v σ' H',Inv X pins σ' H' s'∧RelV v u∧D.rt v H'
def PE (X:Cx) (e:Expr) (t:TE):Prop:=
 ∀ (pins:List (Addr×Obj)) (s:Shared) (σ:St) (H:Hp) (Q:VK),Inv X pins σ H s→t σ H Q→wpAny (model X.prog X.w) X.A (eval e X.env) (EP X pins σ Q) X.xe s
def PT (X:Cx) (e:Expr) (t:TT):Prop:=
 ∀ (pins:List (Addr×Obj)) (s:Shared) (σ:St) (H:Hp) (Q:Bool→Hp→Prop),Inv X pins σ H s→t σ H Q→wpAny (model X.prog X.w) X.A (isTrue e X.env (eval e X.env)) (TP X pins σ Q) X.xe s
def PW (X:Cx) (e:Expr) (t:TT):Prop:=
 ∀ (whole:Sem Value) (pins:List (Addr×Obj)) (s:Shared) (σ:St) (H:Hp) (Q:Bool→Hp→Prop),Inv X pins σ H s→t σ H Q→wpAny (model X.prog X.w) X.A (isTrue e X.env whole) (TP X pins σ Q) X.xe s
def PA (X:Cx) (es:List Expr) (t:TA):Prop:=
 ∀ (pos:Pos) (pins:List (Addr×Obj)) (s:Shared) (σ:St) (H:Hp) (Q:List V→Hp→Prop),Inv X pins σ H s→t σ H Q→wpAny (model X.prog X.w) X.A (spliced (backTo pos (starEach es X.env))) (AP X pins σ Q) X.xe s
def PS (X:Cx) (st:Stmt) (t:TS):Prop:=
 ∀ (pins:List (Addr×Obj)) (s:Shared) (σ:St) (H:Hp) (D:Ends),Inv X pins σ H s→t D σ H→wpAny (model X.prog X.w) X.A (exec st X.env) (SP X pins D) X.xe s
def PSs (X:Cx) (st:List Stmt) (t:TS):Prop:=
 ∀ (pins:List (Addr×Obj)) (s:Shared) (σ:St) (H:Hp) (D:Ends),Inv X pins σ H s→t D σ H→wpAny (model X.prog X.w) X.A (execs st X.env) (SP X pins D) X.xe s
theorem thn {α:Type} {t:Sem α} {Q Q':α→Shared→Prop} {M:Model} {A:Around} {E:Value→Shared→Prop} {s:Shared} (h:wpAny M A t Q E s) (hQ: ∀ a s,Q a s→Q' a s):wpAny M A t Q' E s:=wpAny_mono h hQ fun _ _ x=>x
section
variable {X:Cx}
noncomputable def tVar (i:Nat):TE:=fun σ H Q=> ∃ v,σ[i]? =some (some v)∧Q v H
noncomputable def tC (v:V):TE:=fun _ H Q=>Q v H
theorem aS {i:Nat} {x:Str} {pos:Pos} (hN:X.N[i]? =some x) (hv:Vis X.env.scope x) (hd:(x==("__debug__":Str))=false:=by decide) (hcd:(x==("__classdict__":Str))=false:=by decide):PE X (.Name x pos) (tVar i):=by
 intro pins s σ H Q I h
 obtain⟨v,e,h⟩:=h
 obtain⟨m,hn,hl⟩:=I.loc
 obtain⟨u,r,l⟩:=hl i x v hN e hv
 have fin:EP X pins σ Q u s:=⟨v,H,I,r,h⟩
 rcases l with ⟨hk,hm⟩ | ⟨hk,c,hc,hcell⟩
 ·exact wpAny_Name (wpAny_loadName_local I.ok.kind hk hn hm fin) hd
 ·rcases hk with hk | hk
  ·exact wpAny_Name (wpAny_loadName_cell I.ok.kind hk hc hcell fin) hd
  ·exact wpAny_Name (wpAny_loadName_free I.ok.kind hk hc hcell fin hcd) hd
theorem uO {i j pos}:PE X (.Constant (.int i) j pos) (tC (.int i)):=fun _ _ _ H _ I h=>wpAny_Constant_int ⟨.int i,H,I.tok _,⟨_,rfl⟩,h⟩
theorem xQ {b j pos}:PE X (.Constant (.bool b) j pos) (tC (.bl b)):=fun _ _ _ H _ I h=>Constant_bool ⟨.bl b,H,I,rfl,h⟩
theorem uP {j pos}:PE X (.Constant .none j pos) (tC .non):=fun _ _ _ H _ I h=>Constant_none ⟨.non,H,I,rfl,h⟩
theorem uQ {x j pos}:PE X (.Constant (.str x) j pos) (tC (.str x)):=fun _ _ _ H _ I h=>Calls.Constant_str ⟨.str x,H,I.tok _,⟨_,rfl⟩,h⟩
def Gl (X:Cx) (x:Str):Prop:=X.env.kindOf x=some .globalImplicit
theorem bX {E:Value→Shared→Prop} {pins:List (Addr×Obj)} {s:Shared} {σ:St} {H:Hp} {x:Str} {u:Value} {pos:Pos} {Q:Value→Shared→Prop} (I:Inv X pins σ H s) (hg:Gl X x) (hm:X.mg x=some u) (h:Q u s)
  (hd:(x==("__debug__":Str))=false:=by decide):wpAny (model X.prog X.w) X.A (eval (.Name x pos) X.env) Q E s:=
 Calls.Name_function_global I.ok.kind hg (Calls.loadGlobal_global (by rw [I.ok.glob];exact I.mod.glob.keeps I.bk) hm h) hd
theorem bN {E:Value→Shared→Prop} {pins:List (Addr×Obj)} {s:Shared} {σ:St} {H:Hp} {x:Str} {u:Value} {pos:Pos} {Q:Value→Shared→Prop} (I:Inv X pins σ H s) (hg:Gl X x) (hm:X.mg x=none) (hv:bootBuiltins x=some u) (h:Q u s)
  (hn:x≠"__name__":=by decide) (hd:(x==("__debug__":Str))=false:=by decide):wpAny (model X.prog X.w) X.A (eval (.Name x pos) X.env) Q E s:=by
 obtain⟨mb,h1,h2⟩:=I.mod.blt
 exact Calls.Name_function_global I.ok.kind hg (Calls.loadGlobal_builtin (by rw [I.ok.glob];exact I.mod.glob.keeps I.bk) hm (by rw [I.ok.blt];exact h1.keeps I.bk) ((h2 x hn).trans hv) h) hd
theorem qN {x:Str} {v:V} {u:Value} {pos:Pos} (hg:Gl X x) (hm:X.mg x=some u) (r:RelV v u) (hd:(x==("__debug__":Str))=false:=by decide):PE X (.Name x pos) (tC v):=
 fun _ _ _ H _ I h=>bX I hg hm ⟨v,H,I,r,h⟩ hd
variable {a b:Expr} {ta tb:TE} {pos:Pos}
noncomputable def tB (t:TE):TT:=fun σ H Q=>t σ H fun x H1=> ∃ c,x= .bl c∧Q c H1
theorem uR {e:Expr} {t:TE} (h:PE X e t) (he: ∀ whole,isTrue e X.env whole=(do let v←whole;standAt e.pos;holding [v] (truthy v)):=by intro _;rfl):PT X e (tB t):=by
 intro pins s σ H Q I hw
 refine isTrue_plain (thn (h pins s σ H _ I hw) fun v s1 ⟨x,H1,I1,r1,q1⟩=> ?_) (he _)
 obtain⟨d,rfl,q⟩:=q1
 cases r1
 exact wpAny_truthy_bool ⟨H1,I1,q⟩
variable {tA tB':TT} {rest:List Expr}
noncomputable def tAnd (t u:TT):TT:=fun σ H Q=>t σ H fun c H1=>if c=true then u σ H1 Q else Q false H1
noncomputable def tOr (t u:TT):TT:=fun σ H Q=>t σ H fun c H1=>if c=true then Q true H1 else u σ H1 Q
noncomputable def tNot (t:TT):TT:=fun σ H Q=>t σ H fun c H1=>Q (!c) H1
theorem pw_and1 (ha:PT X a tA):PW X (.BoolOp .And [a] pos) tA:=by
 intro wh pins s σ H Q I h
 refine isTrue_and (thn (ha pins s σ H Q I h) fun c s1 e=> ?_)
 cases c with
 | true=>exact isTrue_and_nil e
 | false=>exact e
theorem pw_or1 (ha:PT X a tA):PW X (.BoolOp .Or [a] pos) tA:=by
 intro wh pins s σ H Q I h
 refine isTrue_or (thn (ha pins s σ H Q I h) fun c s1 e=> ?_)
 cases c with
 | false=>exact isTrue_or_nil e
 | true=>exact e
theorem pw_and (ha:PT X a tA) (hb:PW X (.BoolOp .And (b::rest) pos) tB'):PW X (.BoolOp .And (a::b::rest) pos) (tAnd tA tB'):=by
 intro wh pins s σ H Q I h
 refine isTrue_and (thn (ha pins s σ H _ I h) fun c s1 hz_=> ?_)
 obtain⟨H1,I1,q1⟩:=hz_
 cases c with
 | true=>exact hb wh pins s1 σ H1 Q I1 q1
 | false=>exact⟨H1,I1,q1⟩
theorem pw_or (ha:PT X a tA) (hb:PW X (.BoolOp .Or (b::rest) pos) tB'):PW X (.BoolOp .Or (a::b::rest) pos) (tOr tA tB'):=by
 intro wh pins s σ H Q I h
 refine isTrue_or (thn (ha pins s σ H _ I h) fun c s1 hz_=> ?_)
 obtain⟨H1,I1,q1⟩:=hz_
 cases c with
 | true=>exact⟨H1,I1,q1⟩
 | false=>exact hb wh pins s1 σ H1 Q I1 q1
theorem uS (ha:PT X a tA):PT X (.UnaryOp .Not a pos) (tNot tA):=by
 intro pins s σ H Q I h
 exact isTrue_not (ha pins s σ H (fun c H1=>Q (!c) H1) I h)
noncomputable def tAndV (ta tb:TE):TE:=fun σ H Q=>ta σ H fun x H1=> ∃ c,x= .bl c∧if c=true then tb σ H1 Q else Q (.bl false) H1
noncomputable def tOrV (ta tb:TE):TE:=fun σ H Q=>ta σ H fun x H1=> ∃ c,x= .bl c∧if c=true then Q (.bl true) H1 else tb σ H1 Q
noncomputable def tNotV (ta:TE):TE:=fun σ H Q=>ta σ H fun x H1=> ∃ c,x= .bl c∧Q (.bl (!c)) H1
theorem uT {op} {t:TE} (h:PE X a t):PE X (.BoolOp op [a] pos) t:=fun pins s σ H Q I hw=>BoolOp_one (h pins s σ H Q I hw)
theorem uU (ha:PE X a ta) (hb:PE X (.BoolOp .And (b::rest) pos) tb):PE X (.BoolOp .And (a::b::rest) pos) (tAndV ta tb):=by
 intro pins s σ H Q I h
 refine BoolOp_and (thn (ha pins s σ H _ I h) fun v s1 hz_=> ?_)
 obtain⟨x,H1,I1,r1,q1⟩:=hz_
 obtain⟨c,rfl,q1⟩:=q1
 cases r1
 refine wpAny_truthy_bool ?_
 cases c with
 | true=>exact hb pins s1 σ H1 Q I1 q1
 | false=>exact⟨.bl false,H1,I1,rfl,q1⟩
theorem xR (ha:PE X a ta) (hb:PE X (.BoolOp .Or (b::rest) pos) tb):PE X (.BoolOp .Or (a::b::rest) pos) (tOrV ta tb):=by
 intro pins s σ H Q I h
 refine BoolOp_or (thn (ha pins s σ H _ I h) fun v s1 hz_=> ?_)
 obtain⟨x,H1,I1,r1,q1⟩:=hz_
 obtain⟨c,rfl,q1⟩:=q1
 cases r1
 refine wpAny_truthy_bool ?_
 cases c with
 | false=>exact hb pins s1 σ H1 Q I1 q1
 | true=>exact⟨.bl true,H1,I1,rfl,q1⟩
theorem uV (ha:PE X a ta):PE X (.UnaryOp .Not a pos) (tNotV ta):=by
 intro pins s σ H Q I h
 refine UnaryOp_ (thn (ha pins s σ H _ I h) fun v s1 hz_=> ?_)
 obtain⟨x,H1,I1,r1,q1⟩:=hz_
 obtain⟨c,rfl,q1⟩:=q1
 cases r1
 exact not_of (wpAny_truthy_bool ⟨.bl (!c),H1,I1,rfl,q1⟩)
noncomputable def tIf (t:TT) (ta tb:TE):TE:=fun σ H Q=>t σ H fun c H1=>if c=true then ta σ H1 Q else tb σ H1 Q
theorem nM {c:Expr} (hc:PT X c tA) (ha:PE X a ta) (hb:PE X b tb):PE X (.IfExp c a b pos) (tIf tA ta tb):=by
 intro pins s σ H Q I h
 refine wpAny_IfExp (thn (hc pins s σ H _ I h) fun d s1 hz_=> ?_)
 obtain⟨H1,I1,q1⟩:=hz_
 cases d with
 | true=>exact ha pins s1 σ H1 Q I1 q1
 | false=>exact hb pins s1 σ H1 Q I1 q1
end
def SqL (K:PySem.W.Frag) (H:Hp) (a:Addr) (xs:List V):Prop:=
 Rd H a (.lst xs)∨
  ∃ (o:Obj) (its:Array Value) (n:Nat),K.lookup a=some o∧o.cls= .type "list"∧o.dict=none∧o.data= .seq its n∧its.size≤sizeLine∧Vals xs its.toList
def SqT (K:PySem.W.Frag) (H:Hp) (a:Addr) (xs:List V):Prop:=
 Rd H a (.tup xs)∨
  ∃ (o:Obj) (its:Array Value) (n:Nat),K.lookup a=some o∧o.cls= .type "tuple"∧o.dict=none∧o.data= .seq its n∧its.size≤sizeLine∧Vals xs its.toList
noncomputable def absV:Value→Option V
 | .none=>some .non
 | .bool b=>some (.bl b)
 | .int i _=>some (.int i)
 | .str x _=>some (.str x)
 | .bytes b _=>some (.byt b)
 | .float b _=>some (.flt b)
 | .ref a=>some (.ref a)
 | .type n=>some (.ty n)
 | _=>none
theorem RelV.abs {x:V} {u:Value} (r:RelV x u):absV u=some x:=by
 cases x with
 | non=>cases r;rfl
 | bl _=>cases r;rfl
 | int _=>obtain⟨t,rfl⟩:=r;rfl
 | str _=>obtain⟨t,rfl⟩:=r;rfl
 | byt _=>obtain⟨t,rfl⟩:=r;rfl
 | flt _=>obtain⟨t,rfl⟩:=r;rfl
 | ref _=>cases r;rfl
 | ty _=>cases r;rfl
theorem RelV.inj {x y:V} {u:Value} (r:RelV x u) (q:RelV y u):x=y:=Option.some.inj (r.abs.symm.trans q.abs)
theorem Vals.inj: ∀ {xs ys:List V} {us:List Value},Vals xs us→Vals ys us→xs=ys
 | _,_,_, .nil, .nil=>rfl
 | _,_,_, .cons r t, .cons r' t'=>by rw [r.inj r',Vals.inj t t']
section
variable {X:Cx} {pins:List (Addr×Obj)} {σ:St} {H:Hp} {s:Shared} {a:Addr} {xs ys:List V}
theorem SqL.of {K:PySem.W.Frag} (h:H a=some (.lst xs)):SqL K H a xs:= .inl (.inl h)
theorem SqT.of {K:PySem.W.Frag} (h:H a=some (.tup xs)):SqT K H a xs:= .inl (.inl h)
theorem Inv.list (I:Inv X pins σ H s) (h:SqL X.K H a xs): ∃ its:List Value,Vals xs its∧PlainL s.heap a its.toArray∧xs.length≤sizeLine:=by
 rcases h with h | ⟨o,its,n,hk,hc,hd,hs,hz,r⟩
 ·obtain⟨z,its,n,r,e⟩:=h.ok I.hok
  exact⟨its,r,⟨_,n,e,rfl,rfl,rfl⟩,z⟩
 ·refine⟨its.toList,r,⟨o,n,I.kIn a o hk,hc,hd,by simpa using hs⟩, ?_⟩
  have e:=r.length
  simp only [Array.length_toList] at e
  omega
theorem Inv.tuple (I:Inv X pins σ H s) (h:SqT X.K H a xs): ∃ its:List Value,Vals xs its∧IsTup s.heap a its.toArray∧xs.length≤sizeLine:=by
 rcases h with h | ⟨o,its,n,hk,hc,_,hs,hz,r⟩
 ·obtain⟨z,its,r,p,_⟩:=h.ok I.hok
  exact⟨its,r,p,z⟩
 ·refine⟨its.toList,r,⟨o,I.kIn a o hk,hc,n,by simpa using hs⟩, ?_⟩
  have e:=r.length
  simp only [Array.length_toList] at e
  omega
theorem Inv.list_inj (I:Inv X pins σ H s) (h:SqL X.K H a xs) (h':SqL X.K H a ys):xs=ys:=by
 obtain⟨its,r,⟨o,n,e,_,_,d⟩,_⟩:=I.list h
 obtain⟨its',r',⟨o',n',e',_,_,d'⟩,_⟩:=I.list h'
 rw [e] at e';cases e'
 rw [d] at d'
 injection d' with d1 _
 have:its=its':=by simpa using congrArg Array.toList d1
 subst this
 exact r.inj r'
theorem Inv.tuple_inj (I:Inv X pins σ H s) (h:SqT X.K H a xs) (h':SqT X.K H a ys):xs=ys:=by
 obtain⟨its,r,⟨o,e,_,n,d⟩,_⟩:=I.tuple h
 obtain⟨its',r',⟨o',e',_,n',d'⟩,_⟩:=I.tuple h'
 rw [e] at e';cases e'
 rw [d] at d'
 injection d' with d1 _
 have:its=its':=by simpa using congrArg Array.toList d1
 subst this
 exact r.inj r'
end
noncomputable abbrev Cx.wish (X:Cx) (E:Value→Shared→Prop):Cx:={ X with xe:=E }
section
variable {X:Cx} {pins:List (Addr×Obj)} {σ:St} {H:Hp} {s:Shared} {E:Value→Shared→Prop}
end
section
variable {X:Cx} {st:Stmt} {rest:List Stmt} {t u:TS} {e:Expr} {te:TE} {pos:Pos}
noncomputable def tNext:TS:=fun D σ H=>D.nx σ H
noncomputable def tSeq (t u:TS):TS:=fun D σ H=>t { D with nx:=u D } σ H
theorem qO:PSs X [] tNext:=fun _ _ σ H _ I h=>wpAny_execs_nil ⟨σ,H,I,h⟩
theorem nN (h1:PS X st t) (h2:PSs X rest u):PSs X (st::rest) (tSeq t u):=by
 intro pins s σ H D I h
 refine wpAny_execs_cons (thn (h1 pins s σ H { D with nx:=u D } I h) fun f s1 q=> ?_)
 cases f with
 | next=>
  obtain⟨σ',H',I',q⟩:=q
  exact h2 pins s1 σ' H' D I' q
 | ret v=>exact q
 | brk=>exact q
 | cont=>exact q
theorem gJ (h1:PS X st t):PSs X [st] t:=by
 intro pins s σ H D I h
 refine wpAny_execs_cons (thn (h1 pins s σ H D I h) fun f s1 q=> ?_)
 cases f with
 | next=>exact wpAny_execs_nil q
 | ret v=>exact q
 | brk=>exact q
 | cont=>exact q
noncomputable def tBreak:TS:=fun D σ H=>D.bk σ H
noncomputable def tCont:TS:=fun D σ H=>D.ct σ H
theorem qP:PS X (.Pass pos) tNext:=fun _ _ σ H _ I h=>wpAny_Pass ⟨σ,H,I,h⟩
theorem nO:PS X (.Break pos) tBreak:=fun _ _ σ H _ I h=>wpAny_Break ⟨σ,H,I,h⟩
theorem gK:PS X (.Continue pos) tCont:=fun _ _ σ H _ I h=>wpAny_Continue ⟨σ,H,I,h⟩
theorem Inv.quiet {pins:List (Addr×Obj)} {σ:St} {H:Hp} {s:Shared} (I:Inv X pins σ H s):interactive X.env=false:=by simp [interactive,I.ok.kind]
noncomputable def tDrop (te:TE):TS:=fun D σ H=>te σ H fun _ H1=>D.nx σ H1
theorem dA (he:PE X e te) (hs:swapsWith e none pos.line X.env=pure false:=by rfl):PS X (.Expr e pos) (tDrop te):=by
 intro pins s σ H D I h
 exact wpAny_Expr_any (thn (he pins s σ H _ I h) fun v s1 ⟨x,H1,I1,r1,q1⟩=>⟨σ,H1,I1,q1⟩) I.quiet hs
noncomputable def tRet (te:TE):TS:=fun D σ H=>te σ H D.rt
theorem kF (he:PE X e te):PS X (.Return (some e) pos) (tRet te):=by
 intro pins s σ H D I h
 exact wpAny_Return_some (thn (he pins s σ H _ I h) fun v s1 ⟨x,H1,I1,r1,q1⟩=>⟨x,σ,H1,I1,r1,q1⟩)
noncomputable def tRetN:TS:=fun D _ H=>D.rt .non H
theorem qQ:PS X (.Return none pos) tRetN:=fun _ _ σ H _ I h=>wpAny_Return_none ⟨.non,σ,H,I,rfl,h⟩
noncomputable def tIfS (c:TT) (t u:TS):TS:=fun D σ H=>c σ H fun b H1=>if b=true then t D σ H1 else u D σ H1
theorem xS {c:Expr} {a b:List Stmt} {tc:TT} (hc:PT X c tc) (ha:PSs X a t) (hb:PSs X b u):PS X (.If c a b pos) (tIfS tc t u):=by
 intro pins s σ H D I h
 refine wpAny_If (thn (hc pins s σ H _ I h) fun d s1 hz_=> ?_)
 obtain⟨H1,I1,q1⟩:=hz_
 cases d with
 | true=>exact ha pins s1 σ H1 D I1 q1
 | false=>exact hb pins s1 σ H1 D I1 q1
end
abbrev TG:=V→St→Hp→(St→Hp→Prop)→Prop
abbrev TGs:=List V→St→Hp→(St→Hp→Prop)→Prop
def PG (X:Cx) (target:Expr) (t:TG):Prop:=
 ∀ (pins:List (Addr×Obj)) (s:Shared) (σ:St) (H:Hp) (v:V) (u:Value) (Q:St→Hp→Prop),Inv X pins σ H s→RelV v u→t v σ H Q→
  wpAny (model X.prog X.w) X.A (assign target X.env u) (fun _ s'=> ∃ σ' H',Inv X pins σ' H' s'∧Q σ' H') X.xe s
def PGs (X:Cx) (ts:List Expr) (t:TGs):Prop:=
 ∀ (pins:List (Addr×Obj)) (s:Shared) (σ:St) (H:Hp) (vs:List V) (us:List Value) (Q:St→Hp→Prop),Inv X pins σ H s→Vals vs us→t vs σ H Q→
  wpAny (model X.prog X.w) X.A (assignInOrder ((assignEach ts X.env).map (·.2)) us) (fun _ s'=> ∃ σ' H',Inv X pins σ' H' s'∧Q σ' H') X.xe s
abbrev TSet:=V→V→V→Hp→(Hp→Prop)→Prop
def PSet (X:Cx) (t:TSet):Prop:=
 ∀ (pins:List (Addr×Obj)) (s:Shared) (σ:St) (H:Hp) (o i v:V) (ov iv u:Value) (Q:Hp→Prop),Inv X pins σ H s→RelV o ov→RelV i iv→RelV v u→t o i v H Q→
  wpAny (model X.prog X.w) X.A (setItem ov iv u) (fun _ s'=> ∃ H',Inv X pins σ H' s'∧Q H') X.xe s
abbrev TIp:=V→V→Hp→VK→Prop
def PIp (X:Cx) (op:Operator) (t:TIp):Prop:=
 ∀ (pins:List (Addr×Obj)) (s:Shared) (σ:St) (H:Hp) (x y:V) (v u:Value) (Q:VK),Inv X pins σ H s→RelV x v→RelV y u→t x y H Q→
  wpAny (model X.prog X.w) X.A (inplaceOp op v u) (EP X pins σ Q) X.xe s
section
variable {X:Cx} {pos:Pos}
noncomputable def gName (i:Nat):TG:=fun v σ H Q=>Q (σ.set i (some v)) H
theorem bY {i:Nat} {x:Str} (hN:X.N.Nodup) (hi:X.N[i]? =some x) (hx:Loc X.env.scope x) (hf:X.fn x=true∨X.env.scope.names.lookup x=some .local:=by first | exact .inl rfl | exact .inr rfl | assumption):PG X (.Name x pos) (gName i):=by
 intro pins s σ H v u Q I r h
 exact wpAny_assign_Name (a9 I hN hi hx r (fun s' I'=>⟨_,H,I',h⟩) hf)
noncomputable def gNil:TGs:=fun vs σ H Q=>vs=[]∧Q σ H
noncomputable def gCons (t:TG) (u:TGs):TGs:=fun vs σ H Q=> ∃ v r,vs=v::r∧t v σ H fun σ' H'=>u r σ' H' Q
theorem kG:PGs X [] gNil:=by
 intro pins s σ H vs us Q I r h
 obtain⟨e,h⟩:=h
 subst e
 cases r
 exact assignInOrder_nil ⟨σ,H,I,h⟩
theorem iD {e:Expr} {es:List Expr} {t:TG} {u:TGs} (h1:PG X e t) (h2:PGs X es u)
  (hs:(assignEach (e::es) X.env).map (·.2)=assign e X.env::(assignEach es X.env).map (·.2):=by rfl):PGs X (e::es) (gCons t u):=by
 intro pins s σ H vs us Q I r h
 obtain⟨v,vr,e1,h⟩:=h
 subst e1
 cases r with
 | cons r rr=>
  rw [hs]
  refine assignInOrder_cons (thn (h1 pins s σ H _ _ _ I r h) fun _ s1 hz_=> ?_)
  obtain⟨σ1,H1,I1,q1⟩:=hz_
  exact h2 pins s1 σ1 H1 _ _ Q I1 rr q1
noncomputable def gTup (K:PySem.W.Frag) (n:Nat) (t:TGs):TG:=fun v σ H Q=> ∃ a xs,v= .ref a∧SqT K H a xs∧xs.length=n∧t xs σ H Q
theorem pN {es:List Expr} {k:Nat} {t:TGs} {n:Nat} (hc:X.calm=true) (h:PGs X es t)
  (hn:(assignEach es X.env).length=n:=by rfl) (hst:(assignEach es X.env).findIdx? (·.1)=none:=by rfl):PG X (.Tuple es k pos) (gTup X.K n t):=by
 intro pins s σ H v u Q I r hw
 obtain⟨a,xs,e1,hq,hl,hw⟩:=hw
 subst e1
 cases r
 obtain⟨its,rv,ht,hz⟩:=I.tuple hq
 refine assign_Tuple_tuple (I.ok.hd hc) ht (by simp [hn, ←hl,rv.length]) hst fun h' hx=> ?_
 have I1:Inv X pins σ H { s with heap:=h' }:=I.kept (t':=s.toks) fun b o e=>hx b o (Nat.ne_of_lt (Heap.lt_size e)) e
 exact h pins _ σ H xs _ Q I1 (by simpa using rv) hw
noncomputable def gSub (to ti:TE) (t:TSet):TG:=fun v σ H Q=>to σ H fun o H1=>ti σ H1 fun i H2=>t o i v H2 fun H3=>Q σ H3
theorem uW {o i:Expr} {to ti:TE} {t:TSet} (ho:PE X o to) (hi:PE X i ti) (hs:PSet X t)
  (ha: ∀ v,assign (.Subscript o i pos) X.env v=(do
   let ov←holding [v] (eval o X.env)
   let iv←holding [v,ov] (eval i X.env)
   standAt pos
   holding [v,ov,iv] (setItem ov iv v)
   release [v,ov,iv] []):=by intro _;rfl):PG X (.Subscript o i pos) (gSub to ti t):=by
 intro pins s σ H v u Q I r h
 rw [ha]
 refine wpAny_bind (wpAny_holding (thn (ho pins s σ H _ I h) fun ov s1 hz_=> ?_))
 obtain⟨x,H1,I1,r1,q1⟩:=hz_
 refine wpAny_bind (wpAny_holding (thn (hi pins s1 σ H1 _ I1 q1) fun iv s2 hz_=> ?_))
 obtain⟨y,H2,I2,r2,q2⟩:=hz_
 refine wpAny_bind (wpAny_standAt (wpAny_bind (wpAny_holding (thn (hs pins s2 σ H2 x y v ov iv u _ I2 r1 r2 r q2) fun _ s3 hz_=> ?_))))
 obtain⟨H3,I3,q3⟩:=hz_
 exact wpAny_release ⟨σ,H3,I3,q3⟩
noncomputable def tAsg (te:TE) (g:TG):TS:=fun D σ H=>te σ H fun x H1=>g x σ H1 D.nx
theorem pO {tg e:Expr} {te:TE} {g:TG} (he:PE X e te) (hg:PG X tg g) (hs:swapsWithSole [tg] e pos.line X.env=pure false:=by rfl) (hw:swappedStores [tg] e X.env=pure none:=by rfl)
  (h1:(assignEach [tg] X.env).map (·.2)=[assign tg X.env]:=by rfl):PS X (.Assign [tg] e pos) (tAsg te g):=by
 intro pins s σ H D I h
 refine wpAny_Assign_stores (thn (he pins s σ H _ I h) fun v s1 ⟨x,H1,I1,r1,q1⟩=> ?_) hs hw
 rw [h1]
 exact thn (hg pins s1 σ H1 x v _ I1 r1 q1) fun _ s2 q=>q
theorem iE {i:Nat} {x:Str} {e:Expr} {te:TE} {pos':Pos} (hN:X.N.Nodup) (hi:X.N[i]? =some x) (hx:Loc X.env.scope x) (he:PE X e te) (hs:swapsWith e (some (.Name x pos')) pos.line X.env=pure false:=by rfl) (hf:X.fn x=true∨X.env.scope.names.lookup x=some .local:=by first | exact .inl rfl | exact .inr rfl | assumption):
  PS X (.Assign [.Name x pos'] e pos) (tAsg te (gName i)):=by
 intro pins s σ H D I h
 refine wpAny_Assign_Name (thn (he pins s σ H _ I h) fun v s1 ⟨y,H1,I1,r1,q1⟩=> ?_) hs
 exact a9 I1 hN hi hx r1 (fun s2 I2=>⟨_,H1,I2,q1⟩) hf
noncomputable def tPar (i j:Nat) (ta:TA):TS:=fun D σ H=>ta σ H fun vs H1=> ∃ v w,vs=[v,w]∧D.nx ((σ.set i (some v)).set j (some w)) H1
theorem uX {i j:Nat} {x y:Str} {a b:Expr} {ta:TA} {px py pt:Pos} {kt k2 pt2} (hc:X.calm=true) (hN:X.N.Nodup) (hi:X.N[i]? =some x) (hj:X.N[j]? =some y) (hij:i≠j)
  (hx:X.env.scope.names.lookup x=some .local) (hy:X.env.scope.names.lookup y=some .local) (ha:PA X [a,b] ta)
  (hw:swappedStores [.Tuple [.Name x px, .Name y py] kt pt] (.Tuple [a,b] k2 pt2) X.env=pure (some [x,y]))
  (hs:swapsWithSole [.Tuple [.Name x px, .Name y py] kt pt] (.Tuple [a,b] k2 pt2) pos.line X.env=pure false:=by rfl):
  PS X (.Assign [.Tuple [.Name x px, .Name y py] kt pt] (.Tuple [a,b] k2 pt2) pos) (tPar i j ta):=by
 intro pins s σ H D I h
 rw [exec_Assign_arm]
 refine wpAny_bind (wpAny_standAt ?_)
 rw [hs]
 refine wpAny_bind (wpAny_pure ?_)
 rw [if_neg (by decide)]
 refine wpAny_bind (Tuple_ (thn (ha _ pins s σ H _ I h) fun us s1 hz_=> ?_))
 obtain⟨vs,H1,I1,r1,q1⟩:=hz_
 obtain⟨v,w,e1,q1⟩:=q1
 subst e1
 obtain⟨u1,u2,rfl,rv,rw'⟩: ∃ u1 u2,us=[u1,u2]∧RelV v u1∧RelV w u2:=by
  cases r1 with
  | cons p q=>
   cases q with
   | cons p' q'=>
    cases q'
    exact⟨_,_,rfl,p,p'⟩
 refine wpAny_newObj_type ?_ (by show 2≤sizeLine;decide)
 have I2:Inv X pins σ H1 { s1 with heap:=s1.heap.push { cls:= .type "tuple",data:= .seq [u1,u2].toArray } }:=I1.kept (t':=s1.toks) fun b o e=>Heap.get?_push_of_some _ e
 rw [hw]
 refine wpAny_bind (wpAny_pure ?_)
 show wpAny (model X.prog X.w) X.A (do rule "assign.swapped-stores";let items←unpackItems (.ref s1.heap.objs.size) 2 none;assignInOrder [fun v=>bindName X.env y v,fun v=>bindName X.env x v] items.reverse;pure Flow.next) _ _ _
 refine wpAny_bind (wpAny_rule (wpAny_bind (unpackItems_tuple (items:= #[u1,u2]) (I.ok.hd hc) (IsTup.new s1.heap _) fun h' hx'=> ?_)))
 have I3:=I2.kept (h':=h') (t':=s1.toks) fun b o e=>hx' b o (Nat.ne_of_lt (Heap.lt_size e)) e
 show wpAny _ _ (assignInOrder [fun v=>bindName X.env y v,fun v=>bindName X.env x v] [u2,u1] >>= fun _=>pure Flow.next) _ _ _
 refine wpAny_bind (assignInOrder_cons (wpAny_bindName (a9 I3 hN hj (.inl hy) rw' (fun s2 I4=> ?_) (.inr hy))))
 refine assignInOrder_cons (wpAny_bindName (a9 I4 hN hi (.inl hx) rv (fun s3 I5=>assignInOrder_nil (wpAny_pure ?_)) (.inr hx)))
 rw [List.set_comm _ _ (Ne.symm hij)] at I5
 exact⟨_,H1,I5,q1⟩
noncomputable def tAug (i:Nat) (te:TE) (ti:TIp):TS:=fun D σ H=> ∃ x,σ[i]? =some (some x)∧te σ H fun y H1=>ti x y H1 fun z H2=>D.nx (σ.set i (some z)) H2
theorem pQ {i:Nat} {x:Str} {e:Expr} {te:TE} {op:Operator} {ti:TIp} {pos':Pos} (hN:X.N.Nodup) (hi:X.N[i]? =some x) (hx:Loc X.env.scope x) (he:PE X e te) (ho:PIp X op ti) (hf:X.fn x=true∨X.env.scope.names.lookup x=some .local:=by first | exact .inl rfl | exact .inr rfl | assumption):
  PS X (.AugAssign (.Name x pos') op e pos) (tAug i te ti):=by
 intro pins s σ H D I h
 obtain⟨v,e1,h⟩:=h
 obtain⟨m,hn,hl⟩:=I.loc
 have vis:Vis X.env.scope x:=by rcases hx with k | k;exact .inl k;exact .inr (.inl k)
 obtain⟨u,r,l⟩:=hl i x v hi e1 vis
 refine wpAny_AugAssign_Name ?_
 have go:wpAny (model X.prog X.w) X.A (eval e X.env) (fun w s₂=>wpAny (model X.prog X.w) X.A (inplaceOp op u w) (fun r s₃=>wpAny (model X.prog X.w) X.A (storeName X.env x r) (fun _=>SP X pins D .next) X.xe s₃) X.xe s₂) X.xe s:=by
  refine thn (he pins s σ H _ I h) fun w s1 hz_=> ?_
  obtain⟨y,H1,I1,r1,q1⟩:=hz_
  refine thn (ho pins s1 σ H1 v y u w _ I1 r r1 q1) fun z s2 hz_=> ?_
  obtain⟨zv,H2,I2,r2,q2⟩:=hz_
  exact a9 I2 hN hi hx r2 (fun s3 I3=>⟨_,H2,I3,q2⟩) hf
 rcases l with ⟨hk,hm⟩ | ⟨hk,c,hc,hcell⟩
 ·exact wpAny_loadName_local I.ok.kind hk hn hm go
 ·rcases hk with hk | hk
  ·exact wpAny_loadName_cell I.ok.kind hk hc hcell go
  ·rcases hx with k | k
   ·have:X.env.scope.names.lookup x=some .free:=hk
    rw [k] at this;cases this
   ·have:X.env.scope.names.lookup x=some .free:=hk
    rw [k] at this;cases this
noncomputable def tAugS (to ti te:TE) (tget:V→V→Hp→VK→Prop) (tip:TIp) (tset:TSet):TS:=fun D σ H=>to σ H fun o H1=>ti σ H1 fun i H2=>tget o i H2 fun x H3=>te σ H3 fun y H4=>tip x y H4 fun z H5=>tset o i z H5 fun H6=>D.nx σ H6
def PGet (X:Cx) (t:V→V→Hp→VK→Prop):Prop:=
 ∀ (pins:List (Addr×Obj)) (s:Shared) (σ:St) (H:Hp) (o i:V) (ov iv:Value) (Q:VK),Inv X pins σ H s→RelV o ov→RelV i iv→t o i H Q→
  wpAny (model X.prog X.w) X.A (getItem ov iv) (EP X pins σ Q) X.xe s
theorem qR {o i e:Expr} {to ti te:TE} {tget:V→V→Hp→VK→Prop} {tip:TIp} {tset:TSet} {op:Operator} {tpos:Pos} (ho:PE X o to) (hi:PE X i ti) (hg:PGet X tget) (he:PE X e te) (hp:PIp X op tip) (hs:PSet X tset)
  (ha: ∀ ov iv new,augStore i ov iv new=(do holding [new,ov,iv] (setItem ov iv new);release [new,ov,iv] [];pure .next):=by intros;rfl):PS X (.AugAssign (.Subscript o i tpos) op e pos) (tAugS to ti te tget tip tset):=by
 intro pins s σ H D I h
 refine wpAny_AugAssign_SubscriptAny (thn (ho pins s σ H _ I h) fun ov s1 ⟨x1,H1,I1,r1,q1⟩=> ?_) ha
 refine thn (hi pins s1 σ H1 _ I1 q1) fun iv s2 hz_=> ?_
 obtain⟨x2,H2,I2,r2,q2⟩:=hz_
 refine thn (hg pins s2 σ H2 x1 x2 ov iv _ I2 r1 r2 q2) fun old s3 hz_=> ?_
 obtain⟨x3,H3,I3,r3,q3⟩:=hz_
 refine thn (he pins s3 σ H3 _ I3 q3) fun v s4 hz_=> ?_
 obtain⟨x4,H4,I4,r4,q4⟩:=hz_
 refine thn (hp pins s4 σ H4 x3 x4 old v _ I4 r3 r4 q4) fun new s5 hz_=> ?_
 obtain⟨x5,H5,I5,r5,q5⟩:=hz_
 exact thn (hs pins s5 σ H5 x1 x2 x5 ov iv new _ I5 r1 r2 r5 q5) fun _ s6 ⟨H6,I6,q6⟩=>⟨σ,H6,I6,q6⟩
noncomputable def ipI (f:Int→Int→Int):TIp:=fun x y H Q=> ∃ i j,x= .int i∧y= .int j∧Q (.int (f i j)) H
theorem pR:PIp X .Add (ipI fun i j=>i+j):=by
 intro pins s σ H x y v u Q I r1 r2 h
 obtain⟨i,j,e1,e2,q⟩:=h
 subst e1;subst e2
 obtain⟨t,rfl⟩:=r1
 obtain⟨t',rfl⟩:=r2
 exact iadd_int ⟨.int _,H,I.tok _,⟨_,rfl⟩,q⟩
theorem uY:PIp X .Sub (ipI fun i j=>i - j):=by
 intro pins s σ H x y v u Q I r1 r2 h
 obtain⟨i,j,e1,e2,q⟩:=h
 subst e1;subst e2
 obtain⟨t,rfl⟩:=r1
 obtain⟨t',rfl⟩:=r2
 exact isub_int ⟨.int _,H,I.tok _,⟨_,rfl⟩,q⟩
end
section
variable {X:Cx} {pos:Pos}
noncomputable def tWhile (c:TT) (tb:TS):TS:=fun D σ H=> ∃ W:Nat→St→Hp→Prop,(∃ m,W m σ H)∧ ∀ m σ H,W m σ H→
 c σ H fun b H1=>if b=true then ∃ N:St→Hp→Prop,(∀ σ' H',N σ' H'→ ∃ m',m'<m∧W m' σ' H')∧tb { D with nx:=N,ct:=N,bk:=D.nx } σ H1 else D.nx σ H1
theorem nQ {c:Expr} {body:List Stmt} {tc:TT} {tb:TS} (hp:PassesOwn (model X.prog X.w) X.A X.env X.xe) (hc:PT X c tc) (hb:PSs X body tb):PS X (.While c body [] pos) (tWhile tc tb):=by
 intro pins s σ H D I h
 obtain⟨W,⟨m0,w0⟩,turn⟩:=h
 refine wpAny_While (codeAny_whileLoop (fun n s'=> ∃ σ' H',Inv X pins σ' H' s'∧W n σ' H') ?_ m0 ⟨σ,H,I,w0⟩)
 rintro n s1 ⟨σ1,H1,I1,w1⟩
 refine wpAny_passesOwn hp (thn (hc pins s1 σ1 H1 _ I1 (turn n σ1 H1 w1)) fun b s2 hz_=> ?_)
 obtain⟨H2,I2,q2⟩:=hz_
 cases b with
 | true=>
  obtain⟨N,hN,q2⟩:=q2
  rw [if_pos rfl]
  refine wpAny_passesOwn hp (thn (hb pins s2 σ1 H2 _ I2 q2) fun f s3 q3=> ?_)
  cases f with
  | next=>
   obtain⟨σ3,H3,I3,n3⟩:=q3
   obtain⟨m',hm,w3⟩:=hN σ3 H3 n3
   exact⟨m',hm,σ3,H3,I3,w3⟩
  | cont=>
   obtain⟨σ3,H3,I3,n3⟩:=q3
   obtain⟨m',hm,w3⟩:=hN σ3 H3 n3
   exact⟨m',hm,σ3,H3,I3,w3⟩
  | brk=>exact q3
  | ret v=>exact q3
 | false=>
  rw [if_neg Bool.false_ne_true]
  exact wpAny_execs_nil ⟨σ1,H2,I2,q2⟩
end
structure It where
 go:Nat→Hp→Prop
 yld:Nat→Hp→V→Hp→Prop
 stop:Nat→Hp→Prop
def FpOk (X:Cx) (pins:List (Addr×Obj)) (H:Hp) (b:Addr):Prop:=
 H b=none∧b≠X.env.locals∧b∉X.fs∧(b∈X.ex∨X.s₀.heap.objs.size≤b)∧(∀ x c,X.env.cells.lookup x=some c→c≠b)∧ ∀ p∈X.pn++pins,p.1≠b
theorem Inv.fpOk {X:Cx} {pins:List (Addr×Obj)} {σ:St} {H H':Hp} {s:Shared} {b:Addr} (I:Inv X pins σ H s) (hb:s.heap.objs.size≤b) (hn:H' b=none):FpOk X pins H' b:=by
 refine⟨hn,Nat.ne_of_gt (Nat.lt_of_lt_of_le I.lt hb),I.nofs hb, .inr (Nat.le_trans I.sz hb),fun x c e z=> ?_,fun p hp z=> ?_⟩
 ·obtain⟨v,q⟩:=I.cell x c e
  exact absurd (Nat.lt_of_lt_of_le q.lt (by rw [z];exact hb)) (Nat.lt_irrefl _)
 ·exact absurd (Nat.lt_of_lt_of_le (Heap.lt_size (I.pin p hp).1) (by rw [z];exact hb)) (Nat.lt_irrefl _)
structure Turn (P:Program) (w:World) (K:PySem.W.Frag) (tg:Expr) (J:It) (fp:List Addr) (it:Addr) (tn:Nat→Heap→Prop):Prop where
 mem:it∈fp
 obj: ∀ i h,tn i h→ ∀ b∈fp, ∃ o,h.get? b=some o∧ ∀ v,o.data≠ .cell v
 keep: ∀ i h h',tn i h→(∀ b∈fp, ∀ o,h.get? b=some o→h'.get? b=some o)→tn i h'
 item: ∀ (X:Cx),X.prog=P→X.w=w→X.K=K→X.calm=true→ ∀ (i:Nat) (pins:List (Addr×Obj)) (s:Shared) (σ:St) (H:Hp) (E:Value→Shared→Prop),Inv X pins σ H s→(∀ b∈fp,FpOk X pins H b)→tn i s.heap→J.go i H→
  wpAny (model P w) X.A (pyNext (.ref it)) (fun r s1=> ∃ u,r=some u∧
   wpAny (model P w) X.A (letOwnedTupleGo tg (.ref it) u) (fun _ s2=> ∃ x H',Inv X pins σ H' s2∧RelV x u∧J.yld i H x H'∧tn (i+1) s2.heap∧ ∀ b∈fp,H' b=none) E s1) E s
 done: ∀ (X:Cx),X.prog=P→X.w=w→X.K=K→X.calm=true→ ∀ (i:Nat) (pins:List (Addr×Obj)) (s:Shared) (σ:St) (H:Hp) (E:Value→Shared→Prop),Inv X pins σ H s→(∀ b∈fp,FpOk X pins H b)→tn i s.heap→J.stop i H→
  wpAny (model P w) X.A (pyNext (.ref it)) (fun r s1=>r=none∧Inv X pins σ H s1) E s
 self: ∀ (A:Around) (i:Nat) (s:Shared) (Q:Value→Shared→Prop) (E:Value→Shared→Prop),tn i s.heap→Q (.ref it) s→wpAny (model P w) A (pyIter (.ref it)) Q E s
abbrev TI:=St→Hp→(It→Hp→Prop)→Prop
def PIE (X:Cx) (pins:List (Addr×Obj)) (σ:St) (tg:Expr) (R:It→Hp→Prop) (itv:Value) (s2:Shared):Prop:=
 ∃ (it:Addr) (fp:List Addr) (tn:Nat→Heap→Prop) (J:It) (H':Hp),itv= .ref it∧Inv X pins σ H' s2∧Turn X.prog X.w X.K tg J fp it tn∧tn 0 s2.heap∧(∀ b∈fp,FpOk X pins H' b)∧R J H'
def PI (X:Cx) (tg iter:Expr) (wi:TI):Prop:=
 ∀ (pins:List (Addr×Obj)) (s:Shared) (σ:St) (H:Hp) (R:It→Hp→Prop),Inv X pins σ H s→wi σ H R→
  wpAny (model X.prog X.w) X.A (eval iter X.env) (fun v s1=>wpAny (model X.prog X.w) X.A (pyIter v) (PIE X pins σ tg R) X.xe s1) X.xe s
theorem nR {M:Model} {A:Around} {E:Value→Shared→Prop} {s:Shared} {tg:Expr} {it:Addr} {u:Value} {o:Obj} {n:String} {vs:Array Value} {Q:Unit→Shared→Prop} (ho:s.heap.get? it=some o) (hc:o.cls= .type n) (hd:o.data= .fields vs)
  (hn:["enumerate","zip","dict_itemiterator","dict_reverseitemiterator","odict_iterator","itertools.zip_longest","itertools.pairwise"].contains n=false) (hQ:Q () s):wpAny M A (letOwnedTupleGo tg (.ref it) u) Q E s:=by
 unfold letOwnedTupleGo
 cases tg<;>first
  | exact wpAny_pure hQ
  | (cases u<;>first
    | exact wpAny_pure hQ
    | (refine wpAny_bind (wpAny_load ho ?_)
       rw [hc,hd]
       show wpAny M A (if(["enumerate","zip","dict_itemiterator","dict_reverseitemiterator","odict_iterator","itertools.zip_longest","itertools.pairwise"].contains n&&vs[0]? ==some (rawInt _))=true then _ else _) Q E s
       rw [if_neg (by intro h;rw [hn,Bool.false_and] at h;cases h)]
       exact wpAny_pure hQ))
noncomputable def Itl (K:PySem.W.Frag) (a:Addr):It:=
 ⟨fun i H=> ∃ xs x,SqL K H a xs∧xs[i]? =some x,fun i H x H'=>H'=H∧ ∀ xs,SqL K H a xs→xs[i]? =some x,fun i H=> ∃ xs,SqL K H a xs∧xs.length≤i⟩
noncomputable def Itt (K:PySem.W.Frag) (a:Addr):It:=
 ⟨fun i H=> ∃ xs x,SqT K H a xs∧xs[i]? =some x,fun i H x H'=>H'=H∧ ∀ xs,SqT K H a xs→xs[i]? =some x,fun i H=> ∃ xs,SqT K H a xs∧xs.length≤i⟩
noncomputable def Itr (lo:Int) (n:Nat):It:=⟨fun i _=>i<n,fun i H x H'=>H'=H∧x= .int (lo+i),fun i _=>n≤i⟩
theorem dB {P:Program} {w:World} {K:PySem.W.Frag} {tg:Expr} (a it:Addr):Turn P w K tg (Itl K a) [it] it (fun i h=>h.IsListIter it a i) where
 mem:=by simp
 obj:=fun i h st b hb=>by
  have e:b=it:=by simpa using hb
  subst e
  obtain⟨o,e,c,d⟩:=st
  exact⟨o,e,fun v z=>by rw [d] at z;cases z⟩
 keep:=fun i h h' st k=>st.at fun o e=>k it (by simp) o e
 item:=by
  intro X hP hw hK hc i pins s σ H E I hf st hg
  subst hP hw hK
  obtain⟨xs,x,hq,hx⟩:=hg
  obtain⟨its,rv,p,hz⟩:=I.list hq
  obtain⟨u,hu,ru⟩:=rv.get hx
  obtain⟨f0,f1,f2,f3,f4,f5⟩:=hf it (by simp)
  refine wpAny_pyNext_list_item st p.isList (x:=u) (by simpa using hu) fun h' st' sb=> ?_
  have I1:Inv X pins σ H { s with heap:=h' }:=I.turned (t':=s.toks) (fun b o hb e=>(sb.2 b hb).trans e) f0 f1 f3 f4 f5
  obtain⟨o,e,c,d⟩:=id st'
  exact⟨u,rfl,nR (s:={ s with heap:=h' }) e c d (by decide) ⟨x,H,I1,ru,⟨rfl,fun ys hy=>by rw [I.list_inj hy hq];exact hx⟩,st',fun b hb=>(hf b hb).1⟩⟩
 done:=by
  intro X hP hw hK hc i pins s σ H E I hf st hg
  subst hP hw hK
  obtain⟨xs,hq,hx⟩:=hg
  obtain⟨its,rv,p,hz⟩:=I.list hq
  obtain⟨f0,f1,f2,f3,f4,f5⟩:=hf it (by simp)
  have hl:=rv.length
  exact wpAny_pyNext_list_end (I.ok.hd hc) st p.isList (by simp;omega) fun h' eb=>⟨rfl,I.turned (t':=s.toks) (fun b o hb e=>eb b o hb e) f0 f1 f3 f4 f5⟩
 self:=fun _ _ _ _ _ st h=>wpAny_pyIter_listiter st h
theorem d7 {P:Program} {w:World} {K:PySem.W.Frag} {tg:Expr} (a it:Addr):Turn P w K tg (Itt K a) [it] it (fun i h=>h.IsTupleIter it a i) where
 mem:=by simp
 obj:=fun i h st b hb=>by
  have e:b=it:=by simpa using hb
  subst e
  obtain⟨o,e,c,d⟩:=st
  exact⟨o,e,fun v z=>by rw [d] at z;cases z⟩
 keep:=fun i h h' st k=>st.at fun o e=>k it (by simp) o e
 item:=by
  intro X hP hw hK hc i pins s σ H E I hf st hg
  subst hP hw hK
  obtain⟨xs,x,hq,hx⟩:=hg
  obtain⟨its,rv,p,hz⟩:=I.tuple hq
  obtain⟨u,hu,ru⟩:=rv.get hx
  obtain⟨f0,f1,f2,f3,f4,f5⟩:=hf it (by simp)
  refine wpAny_pyNext_tuple_item st (show s.heap.IsTuple a its.toArray from p) (x:=u) (by simpa using hu) fun h' st' sb=> ?_
  have I1:Inv X pins σ H { s with heap:=h' }:=I.turned (t':=s.toks) (fun b o hb e=>(sb.2 b hb).trans e) f0 f1 f3 f4 f5
  obtain⟨o,e,c,d⟩:=id st'
  exact⟨u,rfl,nR (s:={ s with heap:=h' }) e c d (by decide) ⟨x,H,I1,ru,⟨rfl,fun ys hy=>by rw [I.tuple_inj hy hq];exact hx⟩,st',fun b hb=>(hf b hb).1⟩⟩
 done:=by
  intro X hP hw hK hc i pins s σ H E I hf st hg
  subst hP hw hK
  obtain⟨xs,hq,hx⟩:=hg
  obtain⟨its,rv,p,hz⟩:=I.tuple hq
  obtain⟨f0,f1,f2,f3,f4,f5⟩:=hf it (by simp)
  have hl:=rv.length
  exact wpAny_pyNext_tuple_end (I.ok.hd hc) st (show s.heap.IsTuple a its.toArray from p) (by simp;omega) fun h' eb=>⟨rfl,I.turned (t':=s.toks) (fun b o hb e=>eb b o hb e) f0 f1 f3 f4 f5⟩
 self:=fun _ _ _ _ _ st h=>wpAny_pyIter_tupleiter st h
theorem jN {P:Program} {w:World} {K:PySem.W.Frag} {tg:Expr} (it:Addr) (lo:Int) (n:Nat):Turn P w K tg (Itr lo n) [it] it (fun i h=>IsRangeIter h it (lo+(i:Nat) * 1) ((n:Int) - (i:Nat)) 1) where
 mem:=by simp
 obj:=fun i h st b hb=>by
  have e:b=it:=by simpa using hb
  subst e
  exact⟨_,st,fun v z=>by
   have z':Data.fields _=Data.cell v:=z
   cases z'⟩
 keep:=fun i h h' st k=>k it (by simp) _ st
 item:=by
  intro X hP hw hK hc i pins s σ H E I hf st hg
  subst hP hw hK
  obtain⟨f0,f1,f2,f3,f4,f5⟩:=hf it (by simp)
  have W:=Walks.range (prog:=X.prog) (w:=X.w) (I.ok.hd hc) it lo 1 n
  refine W.item i s _ _ hg st fun v h' tk hv st' kk=> ?_
  obtain⟨t,rfl⟩:=hv
  have I1:Inv X pins σ H { s with heap:=h',toks:=tk }:=I.turned (fun b o hb e=>kk b o (by simpa using hb) e) f0 f1 f3 f4 f5
  refine⟨_,rfl,nR (s:={ s with heap:=h',toks:=tk }) (n:="range_iterator") st' rfl rfl (by decide) ⟨.int (lo+i),H,I1,⟨t, ?_⟩,⟨rfl,rfl⟩,st',fun b hb=>(hf b hb).1⟩⟩
  rw [Int.mul_one]
 done:=by
  intro X hP hw hK hc i pins s σ H E I hf st hg
  subst hP hw hK
  obtain⟨f0,f1,f2,f3,f4,f5⟩:=hf it (by simp)
  exact wpAny_pyNext_range_end (I.ok.hd hc) st (by have:n≤i:=hg;omega) fun h' eb=>⟨rfl,I.turned (t':=s.toks) (fun b o hb e=>eb b o hb e) f0 f1 f3 f4 f5⟩
 self:=fun _ _ _ _ _ st h=>wpAny_pyIter_rangeiter st h
section
variable {X:Cx} {tg:Expr}
theorem nS {pins:List (Addr×Obj)} {σ:St} {H:Hp} {s:Shared} {R:It→Hp→Prop} {E:Value→Shared→Prop} {lo hi:Int} {t u v:Tok} {tk:Nat} (I:Inv X pins σ H s) (h1: -(2 ^ 62)≤lo) (h2:lo<2 ^ 62) (h3: -(2 ^ 62)≤hi) (h4:hi<2 ^ 62)
  (q:R (Itr lo (hi - lo).toNat) H):wpAny (model X.prog X.w) X.A (pyIter (.ref s.heap.objs.size)) (PIE X pins σ tg R) E { s with heap:=s.heap.push { cls:= .type "range",data:= .fields #[.int lo t, .int hi u, .int 1 v] },toks:=tk }:=by
 refine wpAny_pyIter_range (IsRange.new ..) (small_one h1 h2 h3 h4) ?_
 have I1:Inv X pins σ H { s with heap:=s.heap.push { cls:= .type "range",data:= .fields #[.int lo t, .int hi u, .int 1 v] },toks:=tk }:=I.kept fun b o e=>Heap.get?_push_of_some _ e
 refine⟨(s.heap.push { cls:= .type "range",data:= .fields #[.int lo t, .int hi u, .int 1 v] }).objs.size,[(s.heap.push { cls:= .type "range",data:= .fields #[.int lo t, .int hi u, .int 1 v] }).objs.size],_,_,H,rfl,
  I1.kept (t':=tk) fun b o e=>Heap.get?_push_of_some _ e,jN _ lo (hi - lo).toNat, ?_,fun b hb=> ?_,q⟩
 ·have e1:lo+((0:Nat):Int) * 1=lo:=by simp
  have e2:(((hi - lo).toNat:Nat):Int) - ((0:Nat):Int)=Builtin.Range.rangeSize lo hi 1:=by rw [rangeSize_one];split<;>omega
  show IsRangeIter _ _ (lo+((0:Nat):Int) * 1) ((((hi - lo).toNat:Nat):Int) - ((0:Nat):Int)) 1
  rw [e1,e2]
  exact Heap.get?_push_size _ rfl
 ·have e:b=(s.heap.push { cls:= .type "range",data:= .fields #[.int lo t, .int hi u, .int 1 v] }).objs.size:=by simpa using hb
  subst e
  exact I1.fpOk (Nat.le_refl _) (I1.hok.fresh (Nat.le_refl _))
noncomputable def iRng1 (ta:TA):TI:=fun σ H R=>ta σ H fun vs H1=> ∃ j:Int,vs=[.int j]∧ -(2 ^ 62)≤j∧j<2 ^ 62∧R (Itr 0 j.toNat) H1
theorem e9 {a:Expr} {ta:TA} {p pos:Pos} (hg:Gl X "range") (hm:X.mg "range"=none) (ha:PA X [a] ta) (hs:starEach [a] X.env=[(false,eval a X.env)]:=by rfl):PI X tg (.Call (.Name "range" p) [a] [] pos) (iRng1 ta):=by
 intro pins s σ H R I h
 refine Call_ (bN I hg hm boot_range (PyProof.Rows.callWith_type1 (thn (ha pos pins s σ H _ I h) fun us s1 ⟨vs,H1,I1,r1,q1⟩=> ?_) hs rfl))
 obtain⟨j,e,q1,q2,q⟩:=q1
 subst e
 cases r1 with
 | cons r rr=>
  cases rr
  obtain⟨t,rfl⟩:=r
  exact call_range_1 (nS I1 (by omega) (by omega) q1 q2 (by simpa using q))
noncomputable def tFor (wi:TI) (g:TG) (tb:TS):TS:=fun D σ H=>wi σ H fun J H1=> ∃ W:Nat→Nat→St→Hp→Prop,(∃ m,W 0 m σ H1)∧ ∀ i m σ H,W i m σ H→
 (J.stop i H∧D.nx σ H)∨(J.go i H∧ ∃ N:St→Hp→Prop,(∀ σ' H',N σ' H'→ ∃ m',m'<m∧W (i+1) m' σ' H')∧ ∀ x H',J.yld i H x H'→g x σ H' fun σ2 H2=>tb { D with nx:=N,ct:=N,bk:=D.nx } σ2 H2)
noncomputable def pinsAt (fp:List Addr) (h:Heap):List (Addr×Obj):=fp.filterMap fun b=>(h.get? b).map fun o=>(b,o)
theorem aW {fp:List Addr} {h:Heap} {b:Addr} {o:Obj} (hb:b∈fp) (e:h.get? b=some o):(b,o)∈pinsAt fp h:=List.mem_filterMap.mpr ⟨b,hb,by rw [e];rfl⟩
theorem dC {fp:List Addr} {h:Heap} {p:Addr×Obj} (hp:p∈pinsAt fp h):p.1∈fp∧h.get? p.1=some p.2:=by
 obtain⟨b,hb,e⟩:=List.mem_filterMap.mp hp
 cases q:h.get? b with
 | none=>rw [q] at e;cases e
 | some o=>
  rw [q] at e
  have e':(b,o)=p:=Option.some.inj e
  subst e'
  exact⟨hb,q⟩
theorem Inv.pinned {pins:List (Addr×Obj)} {σ:St} {H:Hp} {s:Shared} {fp:List Addr} (I:Inv X pins σ H s) (hf: ∀ b∈fp,FpOk X pins H b) (ho: ∀ b∈fp, ∃ o,s.heap.get? b=some o∧ ∀ v,o.data≠ .cell v):Inv X (pins++pinsAt fp s.heap) σ H s:=
 I.pins_of fun p hp=>(List.mem_append.mp hp).elim (fun z=>I.pin p (List.mem_append_right _ z)) fun z=>by
  obtain⟨hb,e⟩:=dC z
  obtain⟨f0,f1,f2,_⟩:=hf p.1 hb
  obtain⟨o,e',d⟩:=ho p.1 hb
  rw [e] at e';cases e'
  exact⟨e,f0,f1,f2,d⟩
theorem Inv.unpinned {pins pl:List (Addr×Obj)} {σ:St} {H:Hp} {s:Shared} (I:Inv X (pins++pl) σ H s):Inv X pins σ H s:=I.pins_of fun p hp=>I.pin p (List.mem_append_right _ (List.mem_append_left _ hp))
theorem pS {iter:Expr} {body:List Stmt} {wi:TI} {g:TG} {tb:TS} {pos:Pos} (hp:PassesOwn (model X.prog X.w) X.A X.env X.xe) (hc:X.calm=true) (hi:PI X tg iter wi) (hg:PG X tg g) (hb:PSs X body tb)
  (hs: ∀ x,foldedSetIterable iter X.env x=pure x:=by intro _;rfl):PS X (.For tg iter body [] pos) (tFor wi g tb):=by
 intro pins s σ H D I h
 refine wpAny_For (thn (hi pins s σ H _ I h) fun v s1 h1=>thn h1 fun itv s2 h2=> ?_) hs
 obtain⟨it,fp,tn,J,H2,e,I2,T,st2,f2,W,⟨m0,w0⟩,turn⟩:=h2
 subst e
 -- what stays true of the iterator's objects through the loop
 have stat: ∀ {H':Hp},(∀ b∈fp,H' b=none)→ ∀ b∈fp,FpOk X pins H' b:=fun hn b hb=>⟨hn b hb,(f2 b hb).2⟩
 refine codeAny_forLoop_any (fun n s'=> ∃ i σ' H',Inv X pins σ' H' s'∧tn i s'.heap∧(∀ b∈fp,H' b=none)∧W i n σ' H') ?_ m0 ⟨0,σ,H2,I2,st2,fun b hb=>(f2 b hb).1,w0⟩
 rintro n s3 ⟨i,σ3,H3,I3,st3,fr3,w3⟩
 rcases turn i n σ3 H3 w3 with ⟨stop,qn⟩ | ⟨go,N,hN,step⟩
 ·refine wpAny_passesOwn hp (thn (T.done X rfl rfl rfl hc i pins s3 σ3 H3 X.xe I3 (stat fr3) st3 stop) fun r s4 hz_=> ?_)
  obtain⟨hr,I4⟩:=hz_
  subst hr
  exact wpAny_execs_nil ⟨σ3,H3,I4,qn⟩
 ·refine wpAny_passesOwn hp (thn (T.item X rfl rfl rfl hc i pins s3 σ3 H3 X.xe I3 (stat fr3) st3 go) fun r s4 hz_=> ?_)
  obtain⟨u,hr,h4⟩:=hz_
  subst hr
  refine wpAny_passesOwn hp (thn h4 fun _ s5 hz_=> ?_)
  obtain⟨x,H5,I5,r5,y5,st5,fr5⟩:=hz_
  have I5':=I5.pinned (stat fr5) (T.obj _ _ st5)
  refine wpAny_passesOwn hp (thn (hg _ s5 σ3 H5 x u _ I5' r5 (step x H5 y5)) fun _ s6 hz_=> ?_)
  obtain⟨σ6,H6,I6,q6⟩:=hz_
  refine wpAny_passesOwn hp (thn (hb _ s6 σ6 H6 _ I6 q6) fun f s7 q7=> ?_)
  have again: ∀ {σ7:St} {H7:Hp},Inv X (pins++pinsAt fp s5.heap) σ7 H7 s7→N σ7 H7→ ∃ m,m<n∧ ∃ i σ' H',Inv X pins σ' H' s7∧tn i s7.heap∧(∀ b∈fp,H' b=none)∧W i m σ' H':=fun {σ7 H7} I7 n7=>by
   obtain⟨m',hm,w7⟩:=hN σ7 H7 n7
   refine⟨m',hm,i+1,σ7,H7,I7.unpinned,T.keep _ _ _ st5 fun b hb o e=>(I7.pin (b,o) (List.mem_append_right _ (List.mem_append_right _ (aW hb e)))).1,fun b hb=> ?_,w7⟩
   obtain⟨o,e,d⟩:=T.obj _ _ st5 b hb
   exact(I7.pin (b,o) (List.mem_append_right _ (List.mem_append_right _ (aW hb e)))).2.1
  cases f with
  | next=>obtain⟨σ7,H7,I7,n7⟩:=q7;exact again I7 n7
  | cont=>obtain⟨σ7,H7,I7,n7⟩:=q7;exact again I7 n7
  | brk=>obtain⟨σ7,H7,I7,q7⟩:=q7;exact⟨σ7,H7,I7.unpinned,q7⟩
  | ret v=>obtain⟨x7,σ7,H7,I7,r7,q7⟩:=q7;exact⟨x7,σ7,H7,I7.unpinned,r7,q7⟩
end
abbrev R2:=V→V→Hp→VK→Prop
def OpR (X:Cx) (f:Value→Value→Sem Value) (r:R2):Prop:=
 ∀ (pins:List (Addr×Obj)) (s:Shared) (σ:St) (H:Hp) (x y:V) (v u:Value) (Q:VK),Inv X pins σ H s→RelV x v→RelV y u→r x y H Q→
  wpAny (model X.prog X.w) X.A (f v u) (EP X pins σ Q) X.xe s
def UnR (X:Cx) (f:Value→Sem Value) (r:V→Hp→VK→Prop):Prop:=
 ∀ (pins:List (Addr×Obj)) (s:Shared) (σ:St) (H:Hp) (x:V) (v:Value) (Q:VK),Inv X pins σ H s→RelV x v→r x H Q→
  wpAny (model X.prog X.w) X.A (f v) (EP X pins σ Q) X.xe s
def CallR (X:Cx) (f:Value) (r:List V→Hp→VK→Prop):Prop:=
 ∀ (pins:List (Addr×Obj)) (s:Shared) (σ:St) (H:Hp) (xs:List V) (us:List Value) (Q:VK),Inv X pins σ H s→Vals xs us→r xs H Q→
  wpAny (model X.prog X.w) X.A (call f us) (EP X pins σ Q) X.xe s
noncomputable def tUn (r:V→Hp→VK→Prop) (ta:TE):TE:=fun σ H Q=>ta σ H fun x H1=>r x H1 Q
noncomputable def rI (C:Int→Int→Prop) (g:Int→Int→V):R2:=fun x y H Q=> ∃ i j,x= .int i∧y= .int j∧C i j∧Q (g i j) H
noncomputable def rI0 (g:Int→Int→V):R2:=fun x y H Q=> ∃ i j,x= .int i∧y= .int j∧Q (g i j) H
noncomputable def rU (g:Int→V):V→Hp→VK→Prop:=fun x H Q=> ∃ i,x= .int i∧Q (g i) H
section
variable {X:Cx} {a b c:Expr} {ta tb tc:TE} {pos:Pos}
theorem xT {op:UnaryOp} {r:V→Hp→VK→Prop} (ho:UnR X (unaryOp op) r) (ha:PE X a ta):PE X (.UnaryOp op a pos) (tUn r ta):=by
 intro pins s σ H Q I h
 exact UnaryOp_ (thn (ha pins s σ H _ I h) fun v s1 ⟨x,H1,I1,r1,q1⟩=>ho pins s1 σ H1 x v Q I1 r1 q1)
theorem opI {f:Value→Value→Sem Value} {C:Int→Int→Prop} {g:Int→Int→Int}
  (rule: ∀ (i j:Int) (t u:Tok) (s:Shared) (Q:Value→Shared→Prop) (E:Value→Shared→Prop),C i j→Q (.int (g i j) s.toks) { s with toks:=s.toks+1 }→wpAny (model X.prog X.w) X.A (f (.int i t) (.int j u)) Q E s):
  OpR X f (rI C fun i j=> .int (g i j)):=by
 intro pins s σ H x y v u Q I rx ry h
 obtain⟨i,j,rfl,rfl,hc,q⟩:=h
 obtain⟨t,rfl⟩:=rx
 obtain⟨t',rfl⟩:=ry
 exact rule i j t t' s _ _ hc ⟨.int (g i j),H,I.tok _,⟨_,rfl⟩,q⟩
theorem opI0 {f:Value→Value→Sem Value} {g:Int→Int→Int}
  (rule: ∀ (i j:Int) (t u:Tok) (s:Shared) (Q:Value→Shared→Prop) (E:Value→Shared→Prop),Q (.int (g i j) s.toks) { s with toks:=s.toks+1 }→wpAny (model X.prog X.w) X.A (f (.int i t) (.int j u)) Q E s):
  OpR X f (rI0 fun i j=> .int (g i j)):=by
 intro pins s σ H x y v u Q I rx ry h
 obtain⟨i,j,rfl,rfl,q⟩:=h
 obtain⟨t,rfl⟩:=rx
 obtain⟨t',rfl⟩:=ry
 exact rule i j t t' s _ _ ⟨.int (g i j),H,I.tok _,⟨_,rfl⟩,q⟩
theorem opB0 {f:Value→Value→Sem Value} {g:Int→Int→Bool}
  (rule: ∀ (i j:Int) (t u:Tok) (s:Shared) (Q:Value→Shared→Prop) (E:Value→Shared→Prop),Q (.bool (g i j)) s→wpAny (model X.prog X.w) X.A (f (.int i t) (.int j u)) Q E s):
  OpR X f (rI0 fun i j=> .bl (g i j)):=by
 intro pins s σ H x y v u Q I rx ry h
 obtain⟨i,j,rfl,rfl,q⟩:=h
 obtain⟨t,rfl⟩:=rx
 obtain⟨t',rfl⟩:=ry
 exact rule i j t t' s _ _ ⟨.bl (g i j),H,I,rfl,q⟩
def CDiv (i j:Int):Prop:=0<j∧j<1073741824
def CPow (i j:Int):Prop:=0≤j∧j≤1000000∧i.natAbs<2 ^ 64
def CMul (i j:Int):Prop:=(-(2 ^ 64)<i∧i<2 ^ 64)∨(-(2 ^ 64)<j∧j<2 ^ 64)
theorem CMul.ok {i j:Int} (h:CMul i j):IntMulOk i j:=by
 rcases h with ⟨h1,h2⟩ | ⟨h1,h2⟩
 ·exact .of_left (intBits_le_64 h1 h2)
 ·exact .of_right (intBits_le_64 h1 h2)
theorem jO (k:Nat):(0:Int)≤2 ^ k:=by
 rw [two_pow_cast]
 exact Int.natCast_nonneg _
theorem uZ:OpR X (binaryOp .Add) (rI0 fun i j=> .int (i+j)):=opI0 fun _ _ _ _ _ _ _ q=>add_int q
theorem u6:OpR X (binaryOp .Sub) (rI0 fun i j=> .int (i - j)):=opI0 fun _ _ _ _ _ _ _ q=>sub_int q
theorem u7:OpR X (binaryOp .Mult) (rI CMul fun i j=> .int (i * j)):=opI fun _ _ _ _ _ _ _ hc q=>mul_int q hc.ok
theorem qU:OpR X (binaryOp .FloorDiv) (rI CDiv fun i j=> .int (i / j)):=opI fun i j _ _ _ _ _ hc q=>by
 have h1:(0:Int)<j:=hc.1
 have h2:j<1073741824:=hc.2
 exact floordiv_int (by omega) (by rw [Int.fdiv_eq_ediv_of_nonneg i (by omega)];exact q) (.inl (PyProof.noPylong_small (by omega)))
theorem u8:OpR X (binaryOp .Mod) (rI (fun _ j=>0<j) fun i j=> .int (i % j)):=opI fun i j _ _ _ _ _ hc q=>by
 have h1:(0:Int)<j:=hc
 exact mod_int' (by omega) (by rw [Int.fmod_eq_emod_of_nonneg i (by omega)];exact q)
theorem u9:OpR X (binaryOp .LShift) (rI CPow fun i j=> .int (i * 2 ^ j.toNat)):=opI fun _ _ _ _ _ _ _ hc q=>lshift_int_small hc.1 hc.2.1 hc.2.2 q
theorem vA:OpR X (binaryOp .RShift) (rI (fun _ j=>0≤j) fun i j=> .int (i / 2 ^ j.toNat)):=opI fun i j _ _ _ _ _ hc q=>
 rshift_int hc (by rw [Int.fdiv_eq_ediv_of_nonneg i (jO _)];exact q)
theorem vB:OpR X (binaryOp .BitAnd) (rI0 fun i j=> .int (Builtin.bitAnd i j)):=opI0 fun _ _ _ _ _ _ _ q=>and_int q
theorem xU:OpR X (binaryOp .BitOr) (rI0 fun i j=> .int (Builtin.bitOr i j)):=opI0 fun _ _ _ _ _ _ _ q=>or_int q
theorem vC:OpR X (binaryOp .BitXor) (rI0 fun i j=> .int (Builtin.bitXor i j)):=opI0 fun _ _ _ _ _ _ _ q=>xor_int q
theorem unI {f:Value→Sem Value} {g:Int→Int}
  (rule: ∀ (i:Int) (t:Tok) (s:Shared) (Q:Value→Shared→Prop) (E:Value→Shared→Prop),Q (.int (g i) s.toks) { s with toks:=s.toks+1 }→wpAny (model X.prog X.w) X.A (f (.int i t)) Q E s):
  UnR X f (rU fun i=> .int (g i)):=by
 intro pins s σ H x v Q I rx h
 obtain⟨i,rfl,q⟩:=h
 obtain⟨t,rfl⟩:=rx
 exact rule i t s _ _ ⟨.int (g i),H,I.tok _,⟨_,rfl⟩,q⟩
theorem vD:UnR X (unaryOp .USub) (rU fun i=> .int (-i)):=unI fun _ _ _ _ _ q=>neg_int q
end
section
variable {X:Cx} {a b c:Expr} {ta tb tc:TE} {pos:Pos}
theorem pT {pins:List (Addr×Obj)} {σ:St} {H:Hp} {s:Shared} {Q:VK} {k k':Bool} (I:Inv X pins σ H s) (q:Q (.bl k) H) (e:k=k'):EP X pins σ Q (.bool k') s:=by
 subst e
 exact⟨.bl k,H,I,rfl,q⟩
theorem xV:OpR X (compareOp .Lt) (rI0 fun i j=> .bl (decide (i<j))):=opB0 fun _ _ _ _ _ _ _ q=>lt_int q
theorem xW:OpR X (compareOp .LtE) (rI0 fun i j=> .bl (decide (i≤j))):=opB0 fun _ _ _ _ _ _ _ q=>le_int q
theorem xX:OpR X (compareOp .Gt) (rI0 fun i j=> .bl (decide (j<i))):=opB0 fun _ _ _ _ _ _ _ q=>gt_int q
theorem xY:OpR X (compareOp .GtE) (rI0 fun i j=> .bl (decide (j≤i))):=opB0 fun _ _ _ _ _ _ _ q=>ge_int q
theorem vE:OpR X (compareOp .Is) (fun x y H Q=>y= .non∧Q (.bl (decide (x= .non))) H):=by
 intro pins s σ H x y v u Q I rx ry h
 obtain⟨rfl,q⟩:=h
 cases ry
 refine is_none_gen (pT I q ?_)
 cases x<;>first
  | (cases rx;rfl)
  | (obtain⟨t,rfl⟩:=rx;rfl)
theorem qV:OpR X (compareOp .IsNot) (fun x y H Q=>y= .non∧Q (.bl (!decide (x= .non))) H):=by
 intro pins s σ H x y v u Q I rx ry h
 obtain⟨rfl,q⟩:=h
 cases ry
 refine isnot_none_gen (pT I q ?_)
 cases x<;>first
  | (cases rx;rfl)
  | (obtain⟨t,rfl⟩:=rx;rfl)
theorem line63:(sizeLine:Nat)<2 ^ 63:=by rw [sizeLine_eq];decide
theorem vals1 {x:V} {us:List Value} (r:Vals [x] us): ∃ u,us=[u]∧RelV x u:=by
 cases r with
 | cons r1 r2=>cases r2;exact⟨_,rfl,r1⟩
theorem vals2 {x y:V} {us:List Value} (r:Vals [x,y] us): ∃ u w',us=[u,w']∧RelV x u∧RelV y w':=by
 cases r with
 | cons r1 r2=>
  cases r2 with
  | cons r3 r4=>cases r4;exact⟨_,_,rfl,r1,r3⟩
theorem kH (hc:X.calm=true):CallR X (.builtin "max") (fun xs H Q=> ∃ i j,xs=[.int i, .int j]∧Q (.int (if j > i then j else i)) H):=by
 intro pins s σ H xs us Q I r h
 obtain⟨i,j,rfl,q⟩:=h
 obtain⟨u,w',rfl,⟨t,rfl⟩,⟨t',rfl⟩⟩:=vals2 r
 refine max_two_ints (I.ok.hd hc) fun h' tk k=>⟨_,H,I.kept k, ?_,q⟩
 by_cases hj:j > i
 ·rw [if_pos hj,if_pos hj];exact⟨_,rfl⟩
 ·rw [if_neg hj,if_neg hj];exact⟨_,rfl⟩
theorem vF (hc:X.calm=true):CallR X (.builtin "min") (fun xs H Q=> ∃ i j,xs=[.int i, .int j]∧Q (.int (if j<i then j else i)) H):=by
 intro pins s σ H xs us Q I r h
 obtain⟨i,j,rfl,q⟩:=h
 obtain⟨u,w',rfl,⟨t,rfl⟩,⟨t',rfl⟩⟩:=vals2 r
 refine min_two_ints (I.ok.hd hc) fun h' tk k=>⟨_,H,I.kept k, ?_,q⟩
 by_cases hj:j<i
 ·rw [if_pos hj,if_pos hj];exact⟨_,rfl⟩
 ·rw [if_neg hj,if_neg hj];exact⟨_,rfl⟩
theorem fA:CallR X (.type "int") (fun xs H Q=>(∃ i,xs=[.int i]∧Q (.int i) H)∨ ∃ k,xs=[.bl k]∧Q (.int (if k then 1 else 0)) H):=by
 intro pins s σ H xs us Q I r h
 rcases h with ⟨i,rfl,q⟩ | ⟨k,rfl,q⟩
 ·obtain⟨u,rfl,t,rfl⟩:=vals1 r
  exact call_int_int ⟨.int i,H,I,⟨_,rfl⟩,q⟩
 ·obtain⟨u,rfl,r1⟩:=vals1 r
  cases r1
  exact call_int_bool ⟨.int (if k then 1 else 0),H,I.tok _,⟨_,rfl⟩,q⟩
end
section
variable {prog:Program} {w:World} {A:Around} {E:Value→Shared→Prop} {s:Shared} {K:PySem.W.Frag} {x dx C f:Addr} {mA:Str→Option Value} {name:Str} {v:Value}
end
section
variable {P:Program} {w:World} {H H':Hp} {h h':Heap} {a C dx:Addr} {fs fs':List (Str×V)}
end
section
variable {X:Cx} {pins:List (Addr×Obj)} {σ:St} {H:Hp} {s:Shared} {a C dx:Addr} {fs:List (Str×V)} {f:Str} {v:V} {A:Around} {E:Value→Shared→Prop}
end
section
variable {X:Cx} {o e value:Expr} {f:Str} {pos pos' tpos:Pos} {ta tv:TE}
end
section
variable {X:Cx} {pins:List (Addr×Obj)} {σ:St} {H:Hp} {s:Shared} {A:Around} {E:Value→Shared→Prop} {Q:Value→Shared→Prop} {c:Value} {b:Bool}
end
structure Room (k:Nat) (A:Around):Prop where
 hd:A.handled=none
 dp:A.depth+3 * k+5<recursionLimit
 un:A.units+16 * k+200<cLine
theorem Room.mono {j k:Nat} {A:Around} (r:Room k A) (h:j≤k):Room j A:=⟨r.hd,by have:=r.dp;omega,by have:=r.un;omega⟩
theorem Room.deeper {k:Nat} {A:Around} (r:Room (k+1) A) (env:Env):Room k (A.deeper env):=
 ⟨r.hd,by have:=r.dp;show A.depth+1+3 * k+5<_;omega,by have:=r.un;show A.units+3+16 * k+200<_;omega⟩
theorem Room.depth {k:Nat} {A:Around} (r:Room k A):A.depth<recursionLimit:=by have:=r.dp;omega
theorem Room.units {k:Nat} {A:Around} (r:Room k A):A.units+64<cLine:=by have:=r.un;omega
noncomputable def tNil:TA:=fun _ H Q=>Q [] H
noncomputable def tCons (ta:TE) (tr:TA):TA:=fun σ H Q=>ta σ H fun x H1=>tr σ H1 fun xs H2=>Q (x::xs) H2
section
variable {X:Cx} {e:Expr} {es:List Expr} {te:TE} {t:TA} {pos:Pos}
theorem bA:PA X [] tNil:=fun _ _ _ _ H Q I h=>Calls.spliced_nil ⟨[],H,I, .nil,h⟩
theorem aQ (ha:PE X e te) (hr:PA X es t) (hs:starEach (e::es) X.env=(false,eval e X.env)::starEach es X.env:=by rfl):PA X (e::es) (tCons te t):=by
 intro pos pins s σ H Q I h
 rw [hs]
 show wpAny _ _ (spliced ((false,eval e X.env)::backTo pos (starEach es X.env))) _ _ s
 refine Calls.spliced_cons (thn (ha pins s σ H _ I h) fun u s1 hz_=> ?_)
 obtain⟨x,H1,I1,r1,q1⟩:=hz_
 exact thn (hr pos pins s1 σ H1 _ I1 q1) fun us s2 ⟨xs,H2,I2,r2,q2⟩=>⟨x::xs,H2,I2, .cons r1 r2,q2⟩
noncomputable def tTup (t:TA):TE:=fun σ H Q=>t σ H fun xs H1=>xs.length≤sizeLine∧ ∀ p,H1 p=none→Q (.ref p) (upd H1 p (.tup xs))
noncomputable def tLst (t:TA):TE:=fun σ H Q=>t σ H fun xs H1=>xs.length≤sizeLine∧ ∀ p,H1 p=none→Q (.ref p) (upd H1 p (.lst xs))
theorem vG {x1} (h:PA X es t):PE X (.Tuple es x1 pos) (tTup t):=by
 intro pins s σ H Q I hq
 refine wpAny_Tuple_spliced (thn (h pos pins s σ H _ I hq) fun us s1 ⟨xs,H1,I1,r,z,q⟩=>⟨by rw [←r.length];exact z, ?_⟩)
 have hf:H1 s1.heap.objs.size=none:=I1.hok.fresh (Nat.le_refl _)
 refine⟨.ref s1.heap.objs.size,upd H1 s1.heap.objs.size (.tup xs),I1.laid (t':=s1.toks) (fun b u e=>Heap.get?_push_of_some _ e) (Nat.le_refl _) ?_,rfl,q _ hf⟩
 exact⟨z,us,r,⟨_,Heap.get?_push_size _ rfl,rfl,_,rfl⟩,⟨_,Heap.get?_push_size _ rfl,rfl⟩⟩
theorem vH (h:PA X es t):PE X (.List es pos) (tLst t):=by
 intro pins s σ H Q I hq
 refine wpAny_List_spliced (thn (h pos pins s σ H _ I hq) fun us s1 ⟨xs,H1,I1,r,z,q⟩=>⟨by rw [←r.length];exact z, ?_⟩)
 have hf:H1 s1.heap.objs.size=none:=I1.hok.fresh (Nat.le_refl _)
 refine⟨.ref s1.heap.objs.size,upd H1 s1.heap.objs.size (.lst xs),I1.laid (t':=s1.toks) (fun b u e=>Heap.get?_push_of_some _ e) (Nat.le_refl _) ?_,rfl,q _ hf⟩
 exact⟨z,us,0,r,Heap.get?_push_size _ rfl⟩
end
abbrev Sp:=List V→Hp→VK→XK→Prop
abbrev CXT:=List Env→Hp→Shared→XK→Value→Shared→Prop
structure Env0 (P:Program) (w:World) (K:PySem.W.Frag) (mg:Str→Option Value) (base:Heap) (A:Around) (outer:List Env) (s:Shared) (H:Hp):Prop where
 frames:A.frames=some outer
 mod:Mod K mg base
 bs: ∀ b o,base.get? b=some o→s.heap.get? b=some o∧H b=none
 bsz:base.objs.size≤s.heap.objs.size
 funs:s.heap.FunFrames base outer
 frf: ∀ b∈frs outer,H b=none
 hok:HOk P w H s.heap
 bare:AllBare s.gens
def CE (outer:List Env) (P:Program) (w:World) (H:Hp) (s:Shared) (Q:VK) (u:Value) (s':Shared):Prop:=
 ∃ v H',s'.os=s.os∧AllBare s'.gens∧Un (frs outer) [] H H' s.heap s'.heap∧HOk P w H' s'.heap∧RelV v u∧Q v H'
def CR (CX:CXT) (outer:List Env) (P:Program) (w:World) (H:Hp) (s:Shared) (Q:VK) (E:XK) (r:Result) (s':Shared):Prop:=
 match r with
 | .ok (.ret u)=>CE outer P w H s Q u s'
 | .ok _=>False
 | .error e=>CX outer H s E e s'
structure FnOk (P:Program) (w:World) (K:PySem.W.Frag) (mg:Str→Option Value) (base:Heap) (CX:CXT) (k:Nat) (f:Addr) (fd:FuncData) (ps:List Str) (sp:Sp):Prop where
 len: ∀ vs H Q E,sp vs H Q E→vs.length=ps.length
 run: ∀ (A:Around) (outer:List Env) (s:Shared) (H:Hp) (args:Args) (us:List Value) (vs:List V) (Q:VK) (E:XK),Room k A→Env0 P w K mg base A outer s H→BindsTo s fd args (ps.zip us)→Vals vs us→sp vs H Q E→
  codeAny (model P w) A (.call (.ref f) args) (CR CX outer P w H s Q E) s
section
variable {X:Cx} {pins:List (Addr×Obj)} {σ:St} {H:Hp} {s s':Shared}
theorem Inv.env0 (I:Inv X pins σ H s):Env0 X.prog X.w X.K X.mg X.base X.A X.stack s H:=
 ⟨I.ok.frames,I.ok.mod,I.bs,Nat.le_trans I.ok.bsz I.sz,I.stack,I.stkFree,I.hok,I.bare⟩
theorem Inv.after {Q:VK} {u:Value} (I:Inv X pins σ H s) (h:CE X.stack X.prog X.w H s Q u s'):EP X pins σ Q u s':=by
 obtain⟨v,H',os,bare,un,hok,r,q⟩:=h
 obtain⟨hh,g,d,t,os'⟩:=s'
 obtain rfl:os'=s.os:=os
 exact⟨v,H',I.call (h':=hh) (g':=g) (d':=d) (t':=t) (ch:=[]) un hok bare (fun b z=>absurd z (by simp)),r,q⟩
end
def Binds (K:PySem.W.Frag) (fd:FuncData) (ps:List Str) (ds:List Value):Prop:=
 ∀ (s:Shared) (us:List Value),K.In s.heap→(us++ds).length=ps.length→BindsTo s fd ⟨us,[]⟩ (ps.zip (us++ds))
theorem Binds.all {K:PySem.W.Frag} {fd:FuncData} {ps:List Str} (h: ∀ us:List Value,us.length=ps.length→bindArgs fd ⟨us,[]⟩=pure (ps.zip us)):Binds K fd ps []:=fun s us _ hl=>by
 rw [List.append_nil] at hl ⊢
 exact .of_eq (h us hl)
section
variable {X:Cx} {CX:CXT} {k:Nat} {f C:Addr} {fd:FuncData} {ps:List Str} {sp:Sp} {dvs:List V} {ds:List Value} {E:XK} {x m:Str} {p pos apos:Pos} {e o:Expr} {es:List Expr} {ta:TE} {t:TA}
end
section
variable {X:Cx} {CX:CXT} {k:Nat} {f C:Addr} {fd:FuncData} {ps ks:List Str} {sp:Sp} {E:XK} {x m:Str} {p pos apos kpos:Pos} {e o:Expr} {es:List Expr} {kws:List Keyword} {te ta:TE} {t tk:TA} {nm:Option Str}
variable {g:List Value→List Value→List Value} {gV:List V→List V→List V}
end
structure FnScope (N P:List Str) (sc:Scope):Prop where
 kind:sc.kind= .function
 co:sc.isCoroutine=false
 gen:sc.isGenerator=false
 nd:N.Nodup
 pre:N.take P.length=P
 par: ∀ x∈P,sc.names.lookup x=some .local∨sc.names.lookup x=some .cell
 nofree: ∀ y∈sc.names,y.2≠ .free
theorem fB {kindOf:Str→Option NameKind} {x:Str}: ∀ {binds:List (Str×Value)} {m:Str→Option Value},(∀ v,(x,v)∉binds)→bindL kindOf binds m x=m x
 | [],_,_=>rfl
 | (n,v)::r,m,h=>by
  unfold bindL
  rw [fB fun w hw=>h w (List.mem_cons_of_mem _ hw)]
  split
  ·have:x≠n:=by rintro rfl;exact h v List.mem_cons_self
   simp [this]
  ·rfl
theorem fC {kindOf:Str→Option NameKind} {x:Str}: ∀ {binds:List (Str×Value)} {m:Str→Option Value},(∀ v,(x,v)∉binds)→bindC kindOf binds m x=m x
 | [],_,_=>rfl
 | (n,v)::r,m,h=>by
  unfold bindC
  rw [fC fun w hw=>h w (List.mem_cons_of_mem _ hw)]
  split
  ·rfl
  ·have:x≠n:=by rintro rfl;exact h v List.mem_cons_self
   simp [this]
theorem fD {kindOf:Str→Option NameKind} {x:Str} {v:Value}: ∀ {P:List Str} {vs:List Value} {i:Nat} {m:Str→Option Value},P.Nodup→P[i]? =some x→vs[i]? =some v→kindOf x=some .local→
  bindL kindOf (P.zip vs) m x=some v
 | [],_,_,_,_,h,_,_=>by simp at h
 | _::_,[],_,_,_,_,h,_=>by simp at h
 | p::P,w::vs,0,m,nd,h1,h2,hk=>by
  simp at h1 h2;subst h1;subst h2
  show bindL kindOf ((p,w)::P.zip vs) m p=_
  unfold bindL
  rw [fB fun v hv=>(List.nodup_cons.mp nd).1 (List.of_mem_zip hv).1,if_pos hk]
  simp
 | p::P,w::vs,i+1,m,nd,h1,h2,hk=>by
  show bindL kindOf ((p,w)::P.zip vs) m x=_
  unfold bindL
  exact fD (i:=i) (List.nodup_cons.mp nd).2 (by simpa using h1) (by simpa using h2) hk
theorem fE {kindOf:Str→Option NameKind} {x:Str} {v:Value}: ∀ {P:List Str} {vs:List Value} {i:Nat} {m:Str→Option Value},P.Nodup→P[i]? =some x→vs[i]? =some v→kindOf x≠some .local→
  bindC kindOf (P.zip vs) m x=some v
 | [],_,_,_,_,h,_,_=>by simp at h
 | _::_,[],_,_,_,_,h,_=>by simp at h
 | p::P,w::vs,0,m,nd,h1,h2,hk=>by
  simp at h1 h2;subst h1;subst h2
  show bindC kindOf ((p,w)::P.zip vs) m p=_
  unfold bindC
  rw [fC fun v hv=>(List.nodup_cons.mp nd).1 (List.of_mem_zip hv).1,if_neg hk]
  simp
 | p::P,w::vs,i+1,m,nd,h1,h2,hk=>by
  show bindC kindOf ((p,w)::P.zip vs) m x=_
  unfold bindC
  exact fE (i:=i) (List.nodup_cons.mp nd).2 (by simpa using h1) (by simpa using h2) hk
noncomputable def start (N:List Str) (vs:List V):St:=vs.map some++List.replicate (N.length - vs.length) none
noncomputable def cxOf (CX:CXT) (P:Program) (w:World) (K:PySem.W.Frag) (mg:Str→Option Value) (base:Heap) (N:List Str) (qual:Str) (scope:Scope) (f:Addr) (cd:Value) (A:Around) (outer:List Env) (s:Shared) (H:Hp) (E:XK):Cx where
 prog:=P
 w:=w
 K:=K
 mg:=mg
 base:=base
 A:=A.deeper (envOfC qual scope s.heap.objs.size f cd)
 N:=N
 s₀:=s
 H₀:=H
 env:=envOfC qual scope s.heap.objs.size f cd
 outer:=outer
 stack:=envOfC qual scope s.heap.objs.size f cd::outer
 ex:=[]
 calm:=true
 fn:=fun _=>true
 pn:=[]
 xe:=fun e s'=>wpAny (model P w) (A.deeper (envOfC qual scope s.heap.objs.size f cd)) (leaving (envOfC qual scope s.heap.objs.size f cd) e) (fun _ s''=>CX outer H s E e s'') (fun e' s''=>CX outer H s E e' s'') s'
theorem iF {sc:Scope} {n:Nat} {x:Str} (h:sc.names.lookup x=some .cell): ∃ c,(cellsFrom n sc.names []).lookup x=some c:=by
 have q:=PySem.W.cellsFrom_some sc.names n [] (.inl h)
 exact Option.isSome_iff_exists.mp q
theorem bO {CX:CXT} {P:Program} {w:World} {K:PySem.W.Frag} {mg:Str→Option Value} {base:Heap} {N ps:List Str} {qual:Str} {scope:Scope} {f:Addr} {cd:Value} {A:Around} {outer:List Env} {s s1:Shared} {H:Hp} {E:XK} {us:List Value} {vs:List V}
  (S:FnScope N ps scope) (hd:A.handled=none) (e0:Env0 P w K mg base A outer s H) (hl:vs.length=ps.length) (r:Vals vs us)
  (x:InCallC s s.heap.objs.size (bindL (envOfC qual scope s.heap.objs.size f cd).kindOf (ps.zip us) fun _=>none) (cellsFrom (s.heap.objs.size+1) scope.names []) (bindC (envOfC qual scope s.heap.objs.size f cd).kindOf (ps.zip us) fun _=>none) s1):
  Inv (cxOf CX P w K mg base N qual scope f cd A outer s H E) [] (start N vs) H s1:=by
 have hpl:ps.length≤N.length:=by have:=congrArg List.length S.pre;rw [List.length_take] at this;omega
 obtain⟨h1,tk,rfl,hk⟩:=x.done
 have noA: ∀ b:Addr,b∉(cxOf CX P w K mg base N qual scope f cd A outer s H E).ex:=fun b z=>absurd (show b∈([]:List Addr) from z) (by simp)
 refine⟨⟨e0.mod,S.kind,rfl,rfl,Nat.le_refl _,fun y z c h1 h2=> ?_,fun y hy=> ?_,fun y c _ h=> ?_,fun _=>hd,Around.frames_deeper e0.frames, .inr ⟨rfl,rfl⟩,fun b z=>absurd z (noA b),e0.bs,e0.bsz,fun b _ _=>noA b,fun b z=>absurd z (noA b),e0.funs,e0.frf⟩,
  rfl,e0.bare,Un.kept hk,⟨_,x.toInCall.ns,fun i y v h1 h2 h3=> ?_⟩,fun y c h=>⟨_,x.cell y c h⟩,e0.hok.fresh (Nat.le_refl _),fun y c h=> ?_,fun p hp=>absurd (show p∈([]:List (Addr×Obj)) from hp) (by simp),e0.hok.kept hk, ?_⟩
 ·exact name_of_addr x.apart (PySem.mem_of_lookup h1) (PySem.mem_of_lookup h2)
 ·have hy:scope.names.lookup y=some .cell∨scope.names.lookup y=some .free:=hy
  rcases hy with hy | hy
  ·exact iF hy
  ·exact absurd rfl (S.nofree _ (PySem.mem_of_lookup hy))
 ·exact Nat.le_of_lt (x.above y c (PySem.mem_of_lookup h))
 ·have hi:i<vs.length:=by
   unfold start at h2
   by_cases hi:i<vs.length
   ·exact hi
   ·rw [List.getElem?_append_right (by simpa using hi)] at h2
    rw [List.getElem?_replicate] at h2
    split at h2<;>cases h2
  have ha:vs[i]? =some v:=by
   unfold start at h2
   rw [List.getElem?_append_left (by simpa using hi),List.getElem?_map] at h2
   cases e:vs[i]? with
   | none=>rw [e] at h2;cases h2
   | some a=>rw [e] at h2;cases h2;rfl
  obtain⟨u,hu,rv⟩:=r.get ha
  have hp:ps[i]? =some y:=by
   rw [←S.pre,List.getElem?_take_of_lt (by omega)];exact h1
  have ndP:ps.Nodup:=by rw [←S.pre];exact S.nd.sublist (List.take_sublist _ _)
  refine⟨u,rv, ?_⟩
  rcases S.par y (List.mem_of_getElem? hp) with k | k
  ·exact .inl ⟨k,fD ndP hp hu k⟩
  ·obtain⟨c,e⟩:=iF (n:=s.heap.objs.size+1) k
   refine .inr ⟨.inl k,c,e, ?_⟩
   have q:=x.cell y c e
   rw [fE ndP hp hu (by show scope.names.lookup y≠_;rw [k];decide)] at q
   exact q
 ·exact e0.hok.fresh (Nat.le_of_lt (x.above y c (PySem.mem_of_lookup h)))
 ·unfold start
  show _=N.length
  rw [List.length_append,List.length_map,List.length_replicate]
  omega
theorem xZ {CX:CXT} {P:Program} {w:World} {K:PySem.W.Frag} {mg:Str→Option Value} {base:Heap} {k:Nat} {f:Addr} {name qual:Str} {params:Arguments} {body:List Stmt} {scope:Scope} {dV kV doc pm cdv ct oc:Value} {an od:Option Addr}
  {osl:Array (Option Value)} {N ps:List Str} {sp:Sp} (lk:K.lookup f=some ⟨oc,od, .func (PySem.W.fnOf name qual params body scope dV kV doc pm an cdv ct),osl⟩) (hcd:PySem.W.codeIn K cdv qual=true) (S:FnScope N ps scope)
  (len: ∀ vs H Q E,sp vs H Q E→vs.length=ps.length)
  (hbody: ∀ (A:Around) (outer:List Env) (s:Shared) (H:Hp) (vs:List V) (Q:VK) (E:XK),Room k (A.deeper (envOfC qual scope s.heap.objs.size f cdv))→sp vs H Q E→
   ∃ t,PSs (cxOf CX P w K mg base N qual scope f cdv A outer s H E) body t∧t { nx:=fun _ H'=>Q .non H',rt:=Q } (start N vs) H):
  FnOk P w K mg base CX (k+1) f (PySem.W.fnOf name qual params body scope dV kV doc pm an cdv ct) ps sp:=by
 refine⟨len,fun A outer s H args us vs Q E hr e0 hb r hsp=> ?_⟩
 have hl:=len _ _ _ _ hsp
 have KX:K.In s.heap:=e0.mod.kin.keeps fun b o e=>(e0.bs b o e).1
 have lim:s.heap.NoLimit:=e0.mod.nolimit.keeps fun b o e=>(e0.bs b o e).1
 have hkind: ∀ y∈ps.zip us,scope.names.lookup y.1=some .local∨(scope.names.lookup y.1=some .cell∧((cellsFrom (s.heap.objs.size+1) scope.names []).lookup y.1).isSome=true):=fun⟨n,v⟩ hy=>by
  rcases S.par n (List.of_mem_zip hy).1 with q | q
  ·exact .inl q
  ·exact .inr ⟨q,PySem.W.cellsFrom_some _ _ _ (.inl q)⟩
 refine codeAny_call_function hr.depth (KX _ _ lk) rfl S.co S.gen rfl (PySem.W.codeRec_of KX hcd) (hb _ _ _ _ ?_)
 refine wpAny_newFunctionEnv_cells S.kind hkind fun env he s1 x=> ?_
 subst he
 refine⟨lim.keeps x.toInCall.keep,codeAny_func ?_⟩
 obtain⟨t,ht,hq⟩:=hbody A outer s H vs Q E (hr.deeper _) hsp
 have I:Inv (cxOf CX P w K mg base N qual scope f cdv A outer s H E) [] (start N vs) H s1:=bO S hr.hd e0 hl r x
 refine wpAny_mono (ht [] s1 (start N vs) H _ I hq) (fun fl s' hs=> ?_) fun e s' hs=>hs
 have fin: ∀ {σ':St} {H':Hp} {v:V} {u:Value},Inv (cxOf CX P w K mg base N qual scope f cdv A outer s H E) [] σ' H' s'→RelV v u→Q v H'→CE outer P w H s Q u s':=
  fun {σ' H' v u} J rv q=>⟨v,H',J.os,J.bare,J.base,J.hok,rv,q⟩
 cases fl with
 | ret u=>
  obtain⟨v,σ',H',J,rv,q⟩:=hs
  exact fin J rv q
 | next=>
  obtain⟨σ',H',J,q⟩:=hs
  exact fin (v:=V.non) (u:=Value.none) J rfl q
 | brk=>
  obtain⟨_,_,_,q⟩:=hs
  exact False.elim q
 | cont=>
  obtain⟨_,_,_,q⟩:=hs
  exact False.elim q
section
variable {X:Cx} {x:Str} {p pos:Pos} {e:Expr} {es:List Expr} {t:TA} {id T:String} {r:List V→Hp→VK→Prop}
noncomputable def tCB (r:List V→Hp→VK→Prop) (t:TA):TE:=fun σ H Q=>t σ H fun vs H1=>r vs H1 Q
theorem nT (hc:CallR X (.builtin id) r) (hg:Gl X x) (hm:X.mg x=none) (hv:bootBuiltins x=some (.builtin id)) (ha:PA X (e::es) t) (hn:x≠"__name__":=by decide) (hdb:(x==("__debug__":Str))=false:=by decide)
  (he:starEach (e::es) X.env=(false,eval e X.env)::starEach es X.env:=by rfl) (hpl:(backTo pos (starEach es X.env)).any (·.1)=false:=by rfl):PE X (.Call (.Name x p) (e::es) [] pos) (tCB r t):=by
 intro pins s σ H Q I h
 refine wpAny_Call_Name_kw (bN I hg hm hv ?_ hn hdb)
 exact PyProof.Rows.callWith_builtin1 (thn (ha pos pins s σ H _ I h) fun us s1 ⟨vs,H1,I1,r1,q1⟩=>hc pins s1 σ H1 vs us Q I1 r1 q1) he hpl
end
end L2
namespace HT
open PySem PyProof.Rows
section
open PySem.SeqAt
open PySem.AutoSeq1 (wpAny_loadPart')
open PySem.MeetsSeq PySem.MeetsSeq2 PySem.MeetsSeq3
end
section
variable {prog:Program} {w:World} {A:Around} {E:Value→Shared→Prop} {s:Shared}
theorem cat_tup {t b:Addr} {vs ws:List Value} {Q:Value→Shared→Prop} (ht:IsTup s.heap t vs.toArray) (hb:IsTup s.heap b ws.toArray) (hv:vs≠[])
  (h1:ws=[]→Q (.ref t) s) (h2:ws≠[]→Q (.ref s.heap.objs.size) { s with heap:=s.heap.push { cls:= .type "tuple",data:= .seq (vs++ws).toArray } })
  (hsz:vs.length+ws.length≤sizeLine):wpAny (model prog w) A (binaryOp .Add (.ref t) (.ref b)) Q E s:=by
 obtain⟨⟨cls,dd,data,sl⟩,ho,hc,n,hd⟩:=id ht
 obtain⟨⟨cls2,dd2,data2,sl2⟩,ho2,hc2,n2,hd2⟩:=id hb
 simp only at hc hd hc2 hd2
 subst hc hd hc2 hd2
 have e:vs.toArray++ws.toArray=(vs++ws).toArray:=by simp
 by_cases hw:ws=[]
 ·exact concat_meets ⟨_,ho,rfl⟩ ⟨_,ho2,rfl⟩ noFill_tuple_add seq_tuple_add PySem.F.slot_tuple_add PySem.F.entry_tuple_add (PySem.F.args_tuple_add_2 _ _)
   (tuple_addW1 t b vs.toArray ws.toArray n n2 dd dd2 sl sl2 (by simpa using hv) (by simp [hw])) ⟨ho,ho2,h1 hw⟩
 ·refine concat_meets ⟨_,ho,rfl⟩ ⟨_,ho2,rfl⟩ noFill_tuple_add seq_tuple_add PySem.F.slot_tuple_add PySem.F.entry_tuple_add (PySem.F.args_tuple_add_2 _ _)
   (tuple_addW2 t b vs.toArray ws.toArray n n2 dd dd2 sl sl2 (by simpa using hv) (by simpa using hw) (by rw [List.size_toArray,List.size_toArray];exact hsz)) ⟨ho,ho2, ?_⟩
  rw [e]
  exact h2 hw
noncomputable def sIx (n d:Nat):Option Int→Nat
 | none=>d
 | some v=>if v<0 then(v+(n:Int)).toNat else min v.toNat n
theorem vI (n d:Nat) (hd:d≤n) (o:Option Int):sIx n d o≤n:=by
 cases o with
 | none=>exact hd
 | some v=>
  show(if v<0 then(v+(n:Int)).toNat else min v.toNat n)≤n
  by_cases hv:v<0
  ·rw [if_pos hv];omega
  ·rw [if_neg hv];exact Nat.min_le_right _ _
theorem kJ (v:Int) (n d:Nat):(if v<0 then max (v+(n:Int)) 0 else min v (n:Int))=((sIx n d (some v):Nat):Int):=by
 show(if v<0 then max (v+(n:Int)) 0 else min v (n:Int))=(((if v<0 then(v+(n:Int)).toNat else min v.toNat n):Nat):Int)
 by_cases hv:v<0
 ·simp only [if_pos hv];omega
 ·simp only [if_neg hv];omega
theorem jP (lo hi:Option Int) (n:Nat):Builtin.Slice.sliceAdjust lo hi 1 (n:Int)=(((sIx n 0 lo:Nat):Int),((sIx n n hi:Nat):Int)):=by
 have h1: ¬ ((1:Int)<0):=by omega
 unfold Builtin.Slice.sliceAdjust
 simp only [h1,if_false]
 refine Prod.ext ?_ ?_
 ·cases lo with
  | none=>rfl
  | some v=>exact kJ v n 0
 ·cases hi with
  | none=>rfl
  | some v=>exact kJ v n n
theorem jQ (i j:Nat):Builtin.Slice.slicePlaces (i:Int) (j:Int) 1=j - i:=by
 unfold Builtin.Slice.slicePlaces
 have h1:(1:Int) > 0:=by omega
 simp only [h1,if_true,Int.ediv_one]
 split<;>omega
theorem d8 {v:Value} {o:Option Int} {Q:Option Int→Shared→Prop} (p:IsPart v o) (h:Q o s):wpAny (model prog w) A (Builtin.Slice.slicePartIndex v) Q E s:=by
 cases p with
 | none=>exact slicePart_none h
 | int i t=>exact slicePart_int h
theorem sliceApplied_gen {sl:Addr} {vl vu:Value} {lo hi:Option Int} {n:Nat} {Q:Int×Int×Nat→Shared→Prop} (hs:s.heap.IsSliceOf sl vl vu .none) (pl:IsPart vl lo) (pu:IsPart vu hi)
  (h:Q (((sIx n 0 lo:Nat):Int),1,sIx n n hi - sIx n 0 lo) s):wpAny (model prog w) A (Builtin.Slice.sliceApplied (.ref sl) (pure (n:Int))) Q E s:=by
 obtain⟨os,hos,hcs,hds⟩:=id hs
 unfold Builtin.Slice.sliceApplied Builtin.Slice.sliceFields
 refine wpAny_bind (wpAny_bind (wpAny_field hos hds (x:=vl) rfl (wpAny_bind (wpAny_field hos hds (x:=vu) rfl (wpAny_bind (wpAny_field hos hds (x:= .none) rfl (wpAny_pure ?_)))))))
 refine wpAny_bind (slicePart_none ?_)
 show wpAny _ _ (if((1:Int)==0)=true then _ else _) _ _ s
 rw [if_neg (by decide)]
 refine wpAny_bind (d8 pl (wpAny_bind (d8 pu (wpAny_bind (wpAny_pure ?_)))))
 show wpAny _ _ (match Builtin.Slice.sliceAdjust lo hi 1 (n:Int) with | (lo,hi)=>pure (lo,(1:Int),Builtin.Slice.slicePlaces lo hi 1)) _ _ s
 rw [jP lo hi n]
 show wpAny _ _ (pure (((sIx n 0 lo:Nat):Int),(1:Int),Builtin.Slice.slicePlaces ((sIx n 0 lo:Nat):Int) ((sIx n n hi:Nat):Int) 1)) _ _ s
 rw [jQ]
 exact wpAny_pure h
theorem nU (xs:Array Value) (i k:Nat):((List.range k).filterMap fun(m:Nat)=>xs[((i:Int)+(m:Int) * 1).toNat]?).toArray=((xs.toList.drop i).take k).toArray:=by
 have e:(fun(m:Nat)=>xs[((i:Int)+(m:Int) * 1).toNat]?)=fun m=>xs[i+m]? :=by
  funext m
  have:((i:Int)+(m:Int) * 1).toNat=i+m:=by omega
  rw [this]
 rw [e]
 have:=pick_run xs i k
 rw [List.filterMap_map] at this
 have e2:((fun x=>xs[x]?) ∘ fun x=>i+x)=fun m=>xs[i+m]? :=rfl
 rw [e2] at this
 rw [this]
theorem getItem_tuple_cut {t sl:Addr} {items:Array Value} {vl vu:Value} {lo hi:Option Int} {Q:Value→Shared→Prop} (ht:IsTup s.heap t items) (hs:s.heap.IsSliceOf sl vl vu .none) (pl:IsPart vl lo) (pu:IsPart vu hi)
  (hw: ¬ (sIx items.size 0 lo=0∧sIx items.size items.size hi=items.size))
  (h:Q (.ref s.heap.objs.size) { s with heap:=s.heap.push { cls:= .type "tuple",data:= .seq ((items.toList.drop (sIx items.size 0 lo)).take (sIx items.size items.size hi - sIx items.size 0 lo)).toArray } })
  (hsz:items.size≤sizeLine):wpAny (model prog w) A (getItem (.ref t) (.ref sl)) Q E s:=by
 have htake:sizeOk (.seq ((items.toList.drop (sIx items.size 0 lo)).take (sIx items.size items.size hi - sIx items.size 0 lo)).toArray):=by
  show((items.toList.drop (sIx items.size 0 lo)).take (sIx items.size items.size hi - sIx items.size 0 lo)).toArray.size≤sizeLine
  rw [List.size_toArray,List.length_take,List.length_drop,Array.length_toList]
  omega
 have hj:sIx items.size items.size hi≤items.size:=vI _ _ (Nat.le_refl _) hi
 obtain⟨os,hos,hcs,hds⟩:=id hs
 have hTs:s.TypeIs (.ref sl) "slice":=⟨os,hos,hcs⟩
 unfold getItem
 try with_reducible refine wpAny_holding ?_
 first | refine wpAny_bind (wpAny_pure ?_) | skip
 refine wpAny_bind (wpAny_sequenceKey ht.typeIs (by decide) ?_)
 refine wpAny_bind (wpAny_callSpecial?_slot (name:=Str.ofString "__getitem__") ht.typeIs PyProof.Rows.slot_tuple_getitem
  (wpAny_call_entry PyProof.Rows.slot_tuple_getitem ht.typeIs entry_tuple_getitem ?_ (args_tuple_getitem _ _)))
 show wpAny _ _ (Builtin.Tuple.tupleItemsOf (.ref t) >>= _) _ _ s
 refine wpAny_bind (tupleItemsOf_ ht ?_)
 refine wpAny_bind (wpAny_typeOf hTs ?_)
 rw [if_pos (by decide)]
 refine wpAny_bind (sliceApplied_gen hs pl pu ?_)
 have hno: ¬ ((((sIx items.size 0 lo:Nat):Int)==0&&(1:Int)==1&&(sIx items.size items.size hi - sIx items.size 0 lo)==items.size)=true):=by
  intro q
  rw [Bool.and_eq_true,Bool.and_eq_true] at q
  have q1:((sIx items.size 0 lo:Nat):Int)=0:=eq_of_beq q.1.1
  have q2:sIx items.size items.size hi - sIx items.size 0 lo=items.size:=eq_of_beq q.2
  exact hw ⟨by omega,by omega⟩
 show wpAny _ _ (if(((sIx items.size 0 lo:Nat):Int)==0&&(1:Int)==1&&(sIx items.size items.size hi - sIx items.size 0 lo)==items.size)=true then _ else _) _ _ s
 rw [if_neg hno,nU]
 first
  | exact wpAny_bind (m:=Builtin.Tuple.tupleExact _) (wpAny_newObj_type (wpAny_pure ⟨_,rfl,wpAny_pure h⟩) htake)
  | exact wpAny_bind (m:=Builtin.Tuple.tupleExact _) (wpAny_newObj_type (wpAny_bind (wpAny_pure (wpAny_pure ⟨_,rfl,wpAny_pure h⟩))) htake)
  | exact wpAny_bind (wpAny_bind (m:=Builtin.Tuple.tupleExact _) (wpAny_newObj_type (wpAny_pure (wpAny_pure ⟨_,rfl,wpAny_pure h⟩)) htake))
  | exact wpAny_bind (wpAny_bind (m:=Builtin.Tuple.tupleExact _) (wpAny_newObj_type (wpAny_pure ⟨_,rfl,wpAny_pure h⟩) htake))
end
end HT
namespace L2
open PySem PySem.Spec PyProof.Rows
abbrev TO:=St→Hp→(Option Int→Hp→Prop)→Prop
section
variable {X:Cx} {e:Expr} {te:TE} {lo hi:Option Expr} {tl th:TO} {pos p2:Pos}
def SlR (X:Cx) (r:V→Option Int→Option Int→Hp→VK→Prop):Prop:=
 ∀ (pins:List (Addr×Obj)) (s:Shared) (σ:St) (H:Hp) (x:V) (v vl vu:Value) (lo hi:Option Int) (sl:Addr) (Q:VK),Inv X pins σ H s→RelV x v→s.heap.IsSliceOf sl vl vu .none→IsPart vl lo→IsPart vu hi→r x lo hi H Q→
  ∃ T id,typeLookup (.type T) "__getitem__"=pure (some (.builtin id))∧s.TypeIs v T∧wpAny (model X.prog X.w) X.A (getItem v (.ref sl)) (EP X pins σ Q) X.xe s
noncomputable def cutV (xs:List V) (lo hi:Option Int):List V:=(xs.drop (HT.sIx xs.length 0 lo)).take (HT.sIx xs.length xs.length hi - HT.sIx xs.length 0 lo)
theorem dD (xs:List V) (lo hi:Option Int):(cutV xs lo hi).length≤xs.length:=by
 unfold cutV
 rw [List.length_take,List.length_drop]
 omega
noncomputable def rSlT (K:PySem.W.Frag):V→Option Int→Option Int→Hp→VK→Prop:=fun x lo hi H Q=> ∃ a xs,x= .ref a∧SqT K H a xs∧
 ¬ (HT.sIx xs.length 0 lo=0∧HT.sIx xs.length xs.length hi=xs.length)∧ ∀ p,H p=none→Q (.ref p) (upd H p (.tup (cutV xs lo hi)))
theorem vJ:SlR X (rSlT X.K):=by
 intro pins s σ H x v vl vu lo hi sl Q I rx hs pl pu h
 obtain⟨a,xs,rfl,hx,hw,q⟩:=h
 cases rx
 obtain⟨its,r,ht,hz⟩:=I.tuple hx
 have hlen:its.toArray.size=xs.length:=by rw [List.size_toArray];exact r.length.symm
 refine⟨"tuple",_,PyProof.Rows.slot_tuple_getitem.lookup,ht.typeIs, ?_⟩
 refine HT.getItem_tuple_cut ht hs pl pu (by rw [hlen];exact hw) ?_ (by rw [hlen];exact hz)
 rw [hlen]
 refine⟨.ref s.heap.objs.size,_,I.laid (t':=s.toks) (o:= .tup (cutV xs lo hi)) (fun b ob q=>Heap.get?_push_of_some _ q) (Nat.le_refl _) ?_,rfl,q _ (I.hok.fresh (Nat.le_refl _))⟩
 exact⟨Nat.le_trans (dD xs lo hi) hz,_,(r.drop (HT.sIx xs.length 0 lo)).take (HT.sIx xs.length xs.length hi - HT.sIx xs.length 0 lo),IsTup.new _ _,⟨_,Heap.get?_push_size _ rfl,rfl⟩⟩
noncomputable def rCatT (K:PySem.W.Frag):R2:=fun x y H Q=> ∃ a b xs ys,x= .ref a∧y= .ref b∧SqT K H a xs∧SqT K H b ys∧xs≠[]∧xs.length+ys.length≤sizeLine∧
 (ys=[]→Q (.ref a) H)∧(ys≠[]→ ∀ p,H p=none→Q (.ref p) (upd H p (.tup (xs++ys))))
theorem Vals.nil_iff {xs:List V} {us:List Value} (r:Vals xs us):us=[]↔xs=[]:=by
 cases r with
 | nil=>simp
 | cons _ _=>simp
theorem qW:OpR X (binaryOp .Add) (rCatT X.K):=by
 intro pins s σ H x y v u Q I rx ry h
 obtain⟨a,b,xs,ys,rfl,rfl,ha,hb,hx,hz,q1,q2⟩:=h
 cases rx
 cases ry
 obtain⟨its,r1,p1,_⟩:=I.tuple ha
 obtain⟨its2,r2,p2,_⟩:=I.tuple hb
 refine HT.cat_tup p1 p2 (fun z=>hx (r1.nil_iff.mp z)) (fun z=>⟨.ref a,H,I,rfl,q1 (r2.nil_iff.mp z)⟩) (fun z=> ?_) (by rw [←r1.length, ←r2.length];exact hz)
 refine⟨.ref s.heap.objs.size,_,I.laid (t':=s.toks) (o:= .tup (xs++ys)) (fun b ob q=>Heap.get?_push_of_some _ q) (Nat.le_refl _) ?_,rfl,q2 (fun w=>z (r2.nil_iff.mpr w)) _ (I.hok.fresh (Nat.le_refl _))⟩
 exact⟨by rw [List.length_append];exact hz,_,r1.append r2,IsTup.new _ _,⟨_,Heap.get?_push_size _ rfl,rfl⟩⟩
end
noncomputable def ixN (n:Nat) (i:Int):Option Nat:=if 0≤i then(if i<n then some i.toNat else none) else if -(n:Int)≤i then some (i+n).toNat else none
noncomputable def atI {α:Type} (xs:List α) (i:Int):Option α:=(ixN xs.length i).bind fun j=>xs[j]?
theorem kM {n:Nat} {i:Int} {j:Nat} (h:ixN n i=some j):seqIndex? i n=some j∧j<n∧ -(n:Int)≤i∧i<n:=by
 unfold ixN at h
 by_cases h0:0≤i
 ·rw [if_pos h0] at h
  by_cases h1:i<n
  ·rw [if_pos h1] at h
   have e:i.toNat=j:=Option.some.inj h
   exact⟨by rw [seqIndex_of h0 h1,e],by omega,by omega,h1⟩
  ·rw [if_neg h1] at h;cases h
 ·rw [if_neg h0] at h
  by_cases h1: -(n:Int)≤i
  ·rw [if_pos h1] at h
   have e:(i+n).toNat=j:=Option.some.inj h
   exact⟨by rw [seqIndex_neg (by omega) h1,e],by omega,h1,by omega⟩
  ·rw [if_neg h1] at h;cases h
theorem gL {α:Type} {xs:List α} {i:Int} {v:α} (h:atI xs i=some v): ∃ j,seqIndex? i xs.length=some j∧xs[j]? =some v∧j<xs.length∧ -(xs.length:Int)≤i∧i<xs.length:=by
 unfold atI at h
 cases e:ixN xs.length i with
 | none=>rw [e] at h;cases h
 | some j=>
  rw [e] at h
  obtain⟨h1,h2,h3,h4⟩:=kM e
  exact⟨j,h1,h,h2,h3,h4⟩
def PlainIx (b:Expr):Prop:= ∀ o i,subscripted b false o i=operate [o,i] (getItem o i)
def IxR (X:Cx) (r:R2):Prop:=
 ∀ (value slice:Expr) (pins:List (Addr×Obj)) (s:Shared) (σ:St) (H:Hp) (x y:V) (v u:Value) (Q:VK),Inv X pins σ H s→RelV x v→RelV y u→r x y H Q→
  subscripted slice false v u=operate [v,u] (getItem v u)→wpAny (model X.prog X.w) X.A (subscriptTail value slice v u) (EP X pins σ Q) X.xe s
def MtR (X:Cx) (id:String) (r:V→List V→Hp→VK→Prop):Prop:=
 ∀ (pins:List (Addr×Obj)) (s:Shared) (σ:St) (H:Hp) (x:V) (xs:List V) (v:Value) (us:List Value) (Q:VK),Inv X pins σ H s→RelV x v→Vals xs us→r x xs H Q→
  wpAny (model X.prog X.w) X.A (call (.builtin id) (v::us)) (EP X pins σ Q) X.xe s
section
variable {X:Cx} {a b:Expr} {ta tb:TE} {pos:Pos}
noncomputable def rIxL (K:PySem.W.Frag):R2:=fun x y H Q=> ∃ p xs i v,x= .ref p∧y= .int i∧SqL K H p xs∧atI xs i=some v∧Q v H
noncomputable def rIxT (K:PySem.W.Frag):R2:=fun x y H Q=> ∃ p xs i v,x= .ref p∧y= .int i∧SqT K H p xs∧atI xs i=some v∧Q v H
noncomputable def rIxS:R2:=fun x y H Q=> ∃ z i c,x= .str z∧y= .int i∧z.length≤sizeLine∧atI z.cps.toList i=some c∧Q (.str ⟨#[c]⟩) H
theorem qY:IxR X (rIxL X.K):=by
 intro value slice pins s σ H x y v u Q I rx ry h hs
 obtain⟨p,xs,i,z,rfl,rfl,hq,he,q⟩:=h
 cases rx
 obtain⟨t,rfl⟩:=ry
 obtain⟨its,r,pl,hz⟩:=I.list hq
 obtain⟨j,h1,h2,h3,h4,h5⟩:=gL he
 obtain⟨w,ew,rw'⟩:=r.get h2
 have hl:=r.length
 have hn:=line63
 have fin:EP X pins σ Q w s:=⟨z,H,I,rw',q⟩
 by_cases h0:0≤i
 ·have hj:i.toNat=j:=by
   rw [seqIndex_of h0 h5] at h1
   exact Option.some.inj h1
  exact item_listR pl.isList h0 (by omega) (by rw [hj];simpa using ew) fin hs
 ·have hj:(i+(its.toArray.size:Int)).toNat=j:=by
   rw [seqIndex_neg (by omega) h4] at h1
   rw [List.size_toArray, ←hl]
   exact Option.some.inj h1
  exact subscriptTail_builtinR (x:=w) pl.isList.typeIs slot_list_getitem.lookup
   (wpAny_getItem_list_neg (Q:=fun r s'=>r=w∧EP X pins σ Q r s') pl.isList (by omega) (by rw [List.size_toArray]<;>omega) (by omega) (by rw [hj];simpa using ew) ⟨rfl,fin⟩) hs
theorem vK:IxR X (rIxT X.K):=by
 intro value slice pins s σ H x y v u Q I rx ry h hs
 obtain⟨p,xs,i,z,rfl,rfl,hq,he,q⟩:=h
 cases rx
 obtain⟨t,rfl⟩:=ry
 obtain⟨its,r,pl,hz⟩:=I.tuple hq
 obtain⟨j,h1,h2,h3,h4,h5⟩:=gL he
 obtain⟨w,ew,rw'⟩:=r.get h2
 have hl:=r.length
 have hn:=line63
 have fin:EP X pins σ Q w s:=⟨z,H,I,rw',q⟩
 exact subscriptTail_builtinR (x:=w) pl.typeIs slot_tuple_getitem.lookup
  (getItem_tuple (j:=j) (Q:=fun r s'=>r=w∧EP X pins σ Q r s') pl (by omega) (by omega) (by rw [List.size_toArray, ←hl];exact h1) (by simpa using ew) ⟨rfl,fin⟩) hs
noncomputable def rIx (K:PySem.W.Frag):R2:=fun x y H Q=>rIxL K x y H Q∨rIxT K x y H Q∨rIxS x y H Q
theorem jR (its:List Value) (n j:Nat) (u:Value):Obj.mapSeq (·.setIfInBounds j u) { cls:= .type "list",data:= .seq its.toArray n }={ cls:= .type "list",data:= .seq (its.set j u).toArray n }:=by
 simp [Obj.mapSeq]
theorem Inv.lst {pins:List (Addr×Obj)} {σ:St} {H:Hp} {s:Shared} {p:Addr} {xs:List V} (I:Inv X pins σ H s) (h:H p=some (.lst xs)):
  ∃ (its:List Value) (n:Nat),Vals xs its∧s.heap.get? p=some { cls:= .type "list",data:= .seq its.toArray n }∧xs.length≤sizeLine:=by
 obtain⟨z,its,n,r,e⟩:=I.hok p _ h
 exact⟨its,n,r,e,z⟩
theorem Inv.lstUpd {pins:List (Addr×Obj)} {σ:St} {H:Hp} {s:Shared} {p:Addr} {xs ys:List V} {its its':List Value} {n n':Nat} {f:Obj→Obj} (I:Inv X pins σ H s) (h:H p=some (.lst xs))
  (ho:s.heap.get? p=some { cls:= .type "list",data:= .seq its.toArray n }) (hf:f { cls:= .type "list",data:= .seq its.toArray n }={ cls:= .type "list",data:= .seq its'.toArray n' }) (r:Vals ys its') (hz:ys.length≤sizeLine) (t:Nat):
  Inv X pins σ (upd H p (.lst ys)) { s with heap:=s.heap.update p f,toks:=t }:=by
 have e:(s.heap.update p f).get? p=some { cls:= .type "list",data:= .seq its'.toArray n' }:=by
  rw [Heap.get?_update_self f ho (by rw [hf]<;>rfl),hf]
 refine I.write (x:=p) (e:=p) (by rw [h];trivial) (.inl rfl) (fun b u hb q=>(Heap.get?_update_other _ _ (Ne.symm hb)).trans q) ⟨_,e⟩ ?_
 exact⟨hz,its',n',r,e⟩
noncomputable def rSetL:V→V→V→Hp→(Hp→Prop)→Prop:=fun o i v H Q=> ∃ p xs k j,o= .ref p∧i= .int k∧H p=some (.lst xs)∧ixN xs.length k=some j∧Q (upd H p (.lst (xs.set j v)))
theorem iG:PSet X rSetL:=by
 intro pins s σ H o i v ov iv u Q I ro ri rv h
 obtain⟨p,xs,k,j,rfl,rfl,hp,hj,q⟩:=h
 cases ro
 obtain⟨t,rfl⟩:=ri
 obtain⟨its,n,r,ho,hz⟩:=I.lst hp
 obtain⟨h1,h2,h3,h4⟩:=kM hj
 have hl:=r.length
 have hn:=line63
 have I':Inv X pins σ (upd H p (.lst (xs.set j v))) { s with heap:=s.heap.update p (Obj.mapSeq (·.setIfInBounds j u)) }:=
  I.lstUpd hp ho (jR its n j u) (r.set rv j) (by rw [List.length_set];exact hz) s.toks
 by_cases h0:0≤k
 ·have hk:k.toNat=j:=by
   rw [seqIndex_of h0 h4] at h1
   exact Option.some.inj h1
  exact PySem.W.ki_setAt ho h0 (by omega) (by rw [List.size_toArray, ←hl];exact h4) (by rw [hk];exact⟨_,I',q⟩)
 ·have hk:(k+(its.toArray.size:Int)).toNat=j:=by
   rw [seqIndex_neg (by omega) h3] at h1
   rw [List.size_toArray, ←hl]
   exact Option.some.inj h1
  exact PySem.W.ki_setBack ho (by omega) (by rw [List.size_toArray, ←hl];exact h3) (by omega) (by rw [hk];exact⟨_,I',q⟩)
theorem fF (lo hi:Option Int) (n:Nat):(sliceBounds lo hi none n).1=((HT.sIx n 0 lo:Nat):Int)∧(sliceBounds lo hi none n).2.1=((HT.sIx n n hi:Nat):Int)∧(sliceBounds lo hi none n).2.2=1:=by
 refine⟨?_, ?_,rfl⟩
 ·cases lo with
  | none=>simp [sliceBounds,HT.sIx]
  | some i=>
   simp only [sliceBounds,HT.sIx,Option.getD_none,show(1:Int) > 0 by decide,if_true]
   by_cases h:i<0
   ·simp only [h,if_true]<;>omega
   ·simp only [h,if_false]<;>omega
 ·cases hi with
  | none=>simp [sliceBounds,HT.sIx]
  | some i=>
   simp only [sliceBounds,HT.sIx,Option.getD_none,show(1:Int) > 0 by decide,if_true]
   by_cases h:i<0
   ·simp only [h,if_true]<;>omega
   ·simp only [h,if_false]<;>omega
theorem eK (its:List Value) (lo hi:Option Int):slicePick its.toArray lo hi none=((its.drop (HT.sIx its.length 0 lo)).take (HT.sIx its.length its.length hi - HT.sIx its.length 0 lo)).toArray:=by
 obtain⟨h1,h2,h3⟩:=fF lo hi its.toArray.size
 unfold slicePick
 rw [h1,h2,h3]
 simp only [sliceRange_one,pick_run,List.size_toArray]<;>rfl
noncomputable def rSlL (K:PySem.W.Frag):V→Option Int→Option Int→Hp→VK→Prop:=fun x lo hi H Q=> ∃ a xs,x= .ref a∧SqL K H a xs∧ ∀ p,H p=none→Q (.ref p) (upd H p (.lst (cutV xs lo hi)))
theorem qZ:SlR X (rSlL X.K):=by
 intro pins s σ H x v vl vu lo hi sl Q I rx hs pl pu h
 obtain⟨a,xs,rfl,hx,q⟩:=h
 cases rx
 obtain⟨its,r,ht,hz⟩:=I.list hx
 have hlen:=r.length
 refine⟨"list",_,slot_list_getitem.lookup,ht.isList.typeIs, ?_⟩
 refine wpAny_getItem_list_slice ht.isList hs pl pu .none (by simp) ?_ (by rw [List.size_toArray]<;>omega)
 rw [eK, ←hlen]
 refine⟨.ref s.heap.objs.size,_,I.laid (t':=s.toks) (o:= .lst (cutV xs lo hi)) (fun b ob q=>Heap.get?_push_of_some _ q) (Nat.le_refl _) ?_,rfl,q _ (I.hok.fresh (Nat.le_refl _))⟩
 exact⟨Nat.le_trans (dD xs lo hi) hz,_,0,(r.drop (HT.sIx xs.length 0 lo)).take (HT.sIx xs.length xs.length hi - HT.sIx xs.length 0 lo),Heap.get?_push_size _ rfl⟩
theorem fG:CallR X (.builtin "len") (fun xs H Q=> ∃ p ys,xs=[.ref p]∧(SqL X.K H p ys∨SqT X.K H p ys)∧Q (.int ys.length) H):=by
 intro pins s σ H xs us Q I r h
 obtain⟨p,ys,rfl,hq,q⟩:=h
 obtain⟨u,rfl,rx⟩:=vals1 r
 cases rx
 have hn:=line63
 rcases hq with hq | hq
 ·obtain⟨its,r',pl,hz⟩:=I.list hq
  have hlen:=r'.length
  exact Calls.call_len_list pl.isList (by simp only [List.size_toArray]<;>omega) ⟨.int ys.length,H,I.tok _,⟨s.toks+1,by rw [List.size_toArray,hlen]⟩,q⟩
 ·obtain⟨its,r',pl,hz⟩:=I.tuple hq
  have hlen:=r'.length
  exact len_tuple pl (by simp only [List.size_toArray]<;>omega) ⟨.int ys.length,H,I.tok _,⟨s.toks+1,by rw [List.size_toArray,hlen]⟩,q⟩
theorem fH:CallR X (.type "list") (fun xs H Q=> ∃ p ys,xs=[.ref p]∧(SqL X.K H p ys∨SqT X.K H p ys)∧ ∀ l,H l=none→Q (.ref l) (upd H l (.lst ys))):=by
 intro pins s σ H xs us Q I r h
 obtain⟨p,ys,rfl,hq,q⟩:=h
 obtain⟨u,rfl,rx⟩:=vals1 r
 cases rx
 have fin: ∀ (its:List Value),Vals ys its→ys.length≤sizeLine→ ∀ (h':Heap) (c':Nat),(∀ b o',s.heap.get? b=some o'→h'.get? b=some o')→
   h'.get? s.heap.objs.size=some { cls:= .type "list",dict:=none,data:= .seq its.toArray c',slots:= #[] }→EP X pins σ Q (.ref s.heap.objs.size) { s with heap:=h' }:=fun its r' hz h' c' kp e=>
  ⟨.ref s.heap.objs.size,_,I.laid (t':=s.toks) kp (Nat.le_refl _) (show ObjOk X.prog X.w _ h' _ (.lst ys) from⟨hz,its,c',r',e⟩),rfl,q _ (I.hok.fresh (Nat.le_refl _))⟩
 rcases hq with hq | hq
 ·obtain⟨its,r',pl,hz⟩:=I.list hq
  have hlen:=r'.length
  obtain⟨o,ho,hc,n,hd⟩:=pl.isList
  exact call_list_seq p (.inl rfl) ho hc hd (fun h' c' kp e=>fin its r' hz h' c' kp e) (by simp only [List.size_toArray]<;>omega)
 ·obtain⟨its,r',pl,hz⟩:=I.tuple hq
  have hlen:=r'.length
  obtain⟨o,ho,hc,n,hd⟩:=pl
  exact call_list_seq p (.inr rfl) ho hc hd (fun h' c' kp e=>fin its r' hz h' c' kp e) (by simp only [List.size_toArray]<;>omega)
theorem bP:CallR X (.type "tuple") (fun xs H Q=> ∃ p ys,xs=[.ref p]∧((SqL X.K H p ys∧ ∀ l,H l=none→Q (.ref l) (upd H l (.tup ys)))∨(SqT X.K H p ys∧Q (.ref p) H))):=by
 intro pins s σ H xs us Q I r h
 obtain⟨p,ys,rfl,h⟩:=h
 obtain⟨u,rfl,rx⟩:=vals1 r
 cases rx
 rcases h with ⟨hq,q⟩ | ⟨hq,q⟩
 ·obtain⟨its,r',pl,hz⟩:=I.list hq
  have hlen:=r'.length
  refine call_tuple_list pl.isList (fun h' kp=> ?_) (by simp only [List.size_toArray]<;>omega)
  have I1:Inv X pins σ H { s with heap:=h' }:=I.kept (t':=s.toks) kp
  have I2:Inv X pins σ (upd H h'.objs.size (.tup ys)) { s with heap:=h'.push { cls:= .type "tuple",data:= .seq its.toArray } }:=
   I1.laid (t':=s.toks) (fun b o e=>Heap.get?_push_of_some _ e) (Nat.le_refl _) (show ObjOk X.prog X.w _ _ _ (.tup ys) from⟨hz,its,r',IsTup.new _ _,⟨_,Heap.get?_push_size _ rfl,rfl⟩⟩)
  exact⟨.ref h'.objs.size,_,I2,rfl,q _ (I1.hok.fresh (Nat.le_refl _))⟩
 ·obtain⟨its,r',pl,hz⟩:=I.tuple hq
  exact call_tuple_same pl ⟨.ref p,H,I,rfl,q⟩
def tyV (K:PySem.W.Frag) (T:String) (x:V) (H:Hp):Prop:=match x with
 | .str _=>T="str"
 | .int _=>T="int"
 | .ref p=>(T="list"∧ ∃ xs,SqL K H p xs)∨(T="tuple"∧ ∃ o,K.lookup p=some o∧o.cls= .type "tuple"∧o.dict=none)∨
   (T="dict"∧((∃ kvs,H p=some (.dK kvs))∨ ∃ kvs,H p=some (.dT kvs)))∨(T="set"∧ ∃ S n,H p=some (.set S n))
 | _=>False
theorem pU {pins:List (Addr×Obj)} {σ:St} {H:Hp} {s:Shared} {T:String} {x:V} {v:Value} (I:Inv X pins σ H s) (r:RelV x v) (ty:tyV X.K T x H):
  s.TypeIs v T∧ ∀ a,v= .ref a→ ∃ ob,s.heap.get? a=some ob∧ob.dict=none:=by
 cases x with
 | str z=>
  obtain⟨t,rfl⟩:=r
  cases (show T="str" from ty)
  exact⟨typeIs_str s z t,fun _ e=>nomatch e⟩
 | int i=>
  obtain⟨t,rfl⟩:=r
  cases (show T="int" from ty)
  exact⟨typeIs_int s i t,fun _ e=>nomatch e⟩
 | ref p=>
  cases r
  rcases ty with ⟨rfl,xs,hq⟩ | ⟨rfl,o,hk,hc,hd⟩ | ⟨rfl,hk⟩ | ⟨rfl,S,n,hk⟩
  ·obtain⟨its,_,pl,_⟩:=I.list hq
   refine⟨pl.isList.typeIs,fun a e=> ?_⟩
   cases e
   obtain⟨o,n,e,c,hd,_⟩:=pl
   exact⟨o,e,hd⟩
  ·refine⟨⟨o,I.kIn p o hk,hc⟩,fun a e=> ?_⟩
   cases e
   exact⟨o,I.kIn _ o hk,hd⟩
  ·have z: ∃ o,s.heap.get? p=some o∧o.ExactDict:=by
    rcases hk with ⟨kvs,hk⟩ | ⟨kvs,hk⟩
    ·obtain⟨_,_,_,_,o,_,_,e,ex,_⟩:=I.hok p _ hk
     exact⟨o,e,ex⟩
    ·obtain⟨_,_,_,_,o,_,_,e,ex,_⟩:=I.hok p _ hk
     exact⟨o,e,ex⟩
   obtain⟨o,e,ex⟩:=z
   refine⟨⟨o,e,ex.1⟩,fun a e2=> ?_⟩
   cases e2
   exact⟨o,e,ex.2.1⟩
  ·obtain⟨o,_,_,_,e,ex,_⟩:=I.hok p _ hk
   refine⟨⟨o,e,ex.1⟩,fun a e2=> ?_⟩
   cases e2
   exact⟨o,e,ex.2.1⟩
 | _=>exact False.elim ty
noncomputable def tBM (K:PySem.W.Frag) (T:String) (r:V→List V→Hp→VK→Prop) (to:TE) (t:TA):TE:=fun σ H Q=>to σ H fun x H1=>tyV K T x H1∧t σ H1 fun xs H2=>r x xs H2 Q
variable {o e:Expr} {es:List Expr} {to:TE} {t:TA} {name:Str} {apos cpos:Pos} {T id:String} {r:V→List V→Hp→VK→Prop}
theorem nV (pa:PlainAttrs T) (slot:Slot T name id) (hty:typeOf (.builtin id)=pure (.type "method_descriptor")) (hm:MtR X id r) (ho:PE X o to) (ha:PA X (e::es) t)
  (hbase:attributeBase o name X.env (eval o X.env)=eval o X.env:=by rfl)
  (hfew:((backTo cpos (starEach (e::es) X.env)).all (fun x=> !x.1)&&(backToKw cpos (keywordEach [] X.env)).all (fun x=>x.1.isSome)
   &&decide ((e::es).length+([]:List Keyword).length+(if([]:List Keyword).isEmpty then 0 else 1)<30))=true:=by rfl)
  (hline:(apos.endLine==cpos.line)=true:=by rfl) (hs:starEach (e::es) X.env=(false,eval e X.env)::starEach es X.env:=by rfl) (hplain:(backTo cpos (starEach es X.env)).any (·.1)=false:=by rfl):
  PE X (.Call (.Attribute o name apos) (e::es) [] cpos) (tBM X.K T r to t):=by
 intro pins s σ H Q I h
 refine wpAny_Call_method_late hbase hfew hline rfl (thn (ho pins s σ H _ I h) fun v s1 hz_=> ?_)
 obtain⟨x,H1,I1,r1,ty,q1⟩:=hz_
 obtain⟨h1,h2⟩:=pU I1 r1 ty
 refine⟨T,id,pa,slot,hty,h1,h2, ?_⟩
 have hA:=ha cpos pins s1 σ H1 _ I1 q1
 rw [hs] at hA ⊢
 refine Calls.callWith_builtin (by show(false||(backTo cpos (starEach es X.env)).any (·.1))=false;rw [hplain]<;>rfl) (Calls.evalArgs_plain ?_)
 exact thn hA fun us s2 ⟨vs,H2,I2,r2,q2⟩=>hm pins s2 σ H2 x vs v us Q I2 r1 r2 q2
end
def MtM (X:Cx) (id:String) (r:V→List V→Hp→VK→Prop):Prop:=
 ∀ (pins:List (Addr×Obj)) (s:Shared) (σ:St) (H:Hp) (x:V) (xs:List V) (v:Value) (us:List Value) (Q:VK),Inv X pins σ H s→RelV x v→Vals xs us→r x xs H Q→
  wpAny (model X.prog X.w) X.A (call (.builtin id) (v::us)) (EP X pins σ Q) X.xe s
theorem Vals.one: ∀ {x:V} {us:List Value},Vals [x] us→ ∃ u,us=[u]∧RelV x u
 | _,_, .cons r .nil=>⟨_,rfl,r⟩
theorem Vals.rep {xs:List V} {us:List Value} (h:Vals xs us): ∀ k:Nat,Vals (List.replicate k xs).flatten (List.replicate k us).flatten
 | 0=> .nil
 | k+1=>by
  rw [List.replicate_succ,List.replicate_succ,List.flatten_cons,List.flatten_cons]
  exact Vals.append h (Vals.rep h k)
theorem fI (its:List Value): ∀ (k:Nat) (acc:List Value),
  List.foldl (fun x1 x2=>x1++x2) acc.toArray (List.replicate k its.toArray)=(acc++(List.replicate k its).flatten).toArray
 | 0,acc=>by simp
 | k+1,acc=>by
  have e:acc.toArray++its.toArray=(acc++its).toArray:=by simp
  have e2:(acc++its)++(List.replicate k its).flatten=acc++(List.replicate (k+1) its).flatten:=by
   rw [List.replicate_succ,List.flatten_cons,List.append_assoc]
  rw [←e2, ←fI its k (acc++its), ←e,List.replicate_succ,List.foldl_cons]
section
variable {X:Cx} {pins:List (Addr×Obj)} {σ:St} {H:Hp} {s:Shared} {l b:Addr} {xs ys zs:List V}
theorem Inv.lset {its its':List Value} {n:Nat} {f:Array Value→Array Value} {t':Nat} (I:Inv X pins σ H s) (hH:H l=some (.lst xs))
  (e:s.heap.get? l=some { cls:= .type "list",data:= .seq its.toArray n }) (hf:f its.toArray=its'.toArray) (hv:Vals ys its') (hz:ys.length≤sizeLine):
  Inv X pins σ (upd H l (.lst ys)) { s with heap:=s.heap.update l (Obj.mapSeq f),toks:=t' }:=by
 have q:=PySem.IsL.update e f
 rw [hf] at q
 refine I.write (x:=l) (e:=l) (by rw [hH];exact trivial) (.inl rfl) (fun b' u hb hu=>(Heap.get?_update_other s.heap (Obj.mapSeq f) (Ne.symm hb)).trans hu) ⟨_,q⟩ ?_
 exact⟨hz,its',_,hv,q⟩
theorem Inv.lnew {its:List Value} {t':Nat} (I:Inv X pins σ H s) (hv:Vals ys its) (hz:ys.length≤sizeLine):
  Inv X pins σ (upd H s.heap.objs.size (.lst ys)) { s with heap:=s.heap.push { cls:= .type "list",data:= .seq its.toArray },toks:=t' }:=
 I.laid (fun _ _ q=>Heap.get?_push_of_some _ q) (Nat.le_refl _) ⟨hz,its,0,hv,Heap.get?_push_size _ rfl⟩
theorem Inv.fresh (I:Inv X pins σ H s):H s.heap.objs.size=none:=I.hok.fresh (Nat.le_refl _)
theorem Inv.lstM (I:Inv X pins σ H s) (hH:H l=some (.lst xs)):xs.length≤sizeLine∧ ∃ (its:List Value) (n:Nat),Vals xs its∧xs.length=its.length∧s.heap.get? l=some { cls:= .type "list",data:= .seq its.toArray n }:=by
 obtain⟨z,its,n,r,e⟩:=I.hok l _ hH
 exact⟨z,its,n,r,r.length,e⟩
theorem iH {n:Nat} (h:n≤sizeLine):Builtin.List.listTooLong n=false:=by
 unfold Builtin.List.listTooLong
 exact decide_eq_false (by omega)
end
section
variable {X:Cx}
noncomputable def rAppend:V→List V→Hp→VK→Prop:=fun x vs H Q=> ∃ l xs y,x= .ref l∧vs=[y]∧H l=some (.lst xs)∧xs.length<sizeLine∧Q .non (upd H l (.lst (xs++[y])))
theorem dF:MtM X "list.append" rAppend:=by
 intro pins s σ H x vs v us Q I rx rv h
 obtain⟨l,xs,y,rfl,rfl,hH,hz,q⟩:=h
 cases rx
 obtain⟨u,rfl,ru⟩:=rv.one
 obtain⟨z,its,n,r,hl,e⟩:=I.lstM hH
 refine call_meets F.slot_list_append ⟨_,e,rfl⟩ F.entry_list_append (F.args_list_append_2 _ _) (PySem.list_append l its.toArray n u (by rw [List.size_toArray];omega)) ⟨e, ?_⟩
 refine⟨.non,_,I.lset (its':=its++[u]) hH e (by simp) (r.append (.cons ru .nil)) ?_,rfl,q⟩
 rw [List.length_append,List.length_singleton]
 omega
theorem gM {α:Type} (xs:List α) (k:Nat):(List.replicate k xs).flatten.length=k * xs.length:=by
 induction k with
 | zero=>simp
 | succ k ih=>rw [List.replicate_succ,List.flatten_cons,List.length_append,ih,Nat.succ_mul,Nat.add_comm]
end
section
variable {prog:Program} {w:World} {A:Around} {E:Value→Shared→Prop} {s:Shared}
end
section
variable {X:Cx}
end
end L2
namespace Att
open PySem PySem.W PySem.Calls PyProof.Rows
theorem dG {P:Params} {h:Heap}: ∀ (ns:List Int) (vs:List Value),WellAll P h vs (ns.map WData.int)→IntsAre vs ns:=by
 intro ns
 induction ns with
 | nil=>
  intro vs w
  rw [List.map_nil] at w
  cases w
  exact .nil
 | cons n ns ih=>
  intro vs w
  rw [List.map_cons] at w
  cases w with
  | cons a b=>
   cases a
   exact .cons _ _ (ih _ b)
theorem kN {l:OpenLaw} {n:Nat} (hn:l.most=some n) {P:Params} {h:Heap} {args:List WData} {vals:List Value}
  (hpre:l.row.toRowW.claim.pre args=true) (hwl:WellAll P h vals args):
  ∃ a vs ns,vals=[Value.ref a]∧args=[WData.list (ns.map WData.int)]∧h.get? a=some { cls:= .type "list",data:= .seq vs.toArray }∧IntsAre vs ns∧ns.length≤n:=by
 have hsh:WShape.hasAll [] args [.list .int]=true:=(pre_splitW hpre).1
 have hc:l.pre.holds [] { args:=args }=true:=(pre_splitW hpre).2
 obtain⟨d,r,rfl,h1,h2⟩:=hasAllW_cons hsh
 obtain rfl:=hasAllW_nil h2
 obtain⟨xs,rfl,h3⟩:=hasW_list h1
 obtain⟨ns,rfl⟩:=items_int h3
 have hlen:ns.length≤n:=by
  unfold OpenLaw.pre at hc
  have h4:(WTm.not (.lt (.lit (.int (n:Int))) (.len (.arg 0)))).holds [] { args:=[.list (ns.map .int)] }=true:=by
   have h4:=(holds_andW hc).1
   rw [hn] at h4
   exact h4
  have h5:=condW_of h4 (w_not (w_lt w_lit (w_len_list (w_arg rfl))))
  rw [List.length_map] at h5
  refine Nat.le_of_not_lt fun q=> ?_
  have q':(n:Int)<((ns.length:Nat):Int):=by omega
  first
   | (rw [decide_eq_true q'] at h5;exact absurd h5 (by decide))
   | (simp at h5;omega)
 cases hwl with
 | cons w1 w2=>
  cases w2
  cases w1 with
  | list ho hall=>exact⟨_,_,ns,rfl,rfl,ho,dG ns _ hall,hlen⟩
theorem kO (l:OpenLaw) (args:List WData):l.row.toRowW.claim.post args (.bool true) args=true:=
 postW_of (r:=l.row.toRowW) (X:=(true==true))
  (show WShape.has [] (.bool true) .bool=true by first | rfl | decide | simp [WShape.has,WShape.arms,WShape.armsAll])
  (show(WTm.eq .res (.lit (.bool true))).value [] { args:=args,res:=some (.bool true),after:=args }=some (.bool (true==true)) from w_eq_bool (w_res rfl) w_lit) rfl
theorem attach_call {l:OpenLaw} {n:Nat} {q:Program} {loose:List Str} {XP:(Str→Option Value)→Heap→Prop} {YP:World→Heap→Prop} {d:DefRec}
  (hn:l.most=some n) (hdf:d.params.defaults=[])
  (call: ∀ (w:World) (s₀ s₁:Shared) (mg mb:Str→Option Value) (fa:Addr) (o:Obj) (pm cd doc:Value) (a:Addr) (vs:List Value) (ns:List Int),
   Ground q loose [] XP w s₀ mg mb s₁.heap→YP w s₁.heap→
   s₁.heap.get? fa=some o→o.data= .func (docDef d.name d.params d.body d.scope pm cd doc)→s₁.heap.CodeRec cd d.name→mg d.name=some (.ref fa)→
   s₁.heap.get? a=some { cls:= .type "list",data:= .seq vs.toArray }→IntsAre vs ns→ns.length≤n→s₁.gens= #[]→
   codeAny (model l.prog w) callerA (.call (.ref fa) ⟨[.ref a],[]⟩) (fun r s'=>r= .ok (.ret (.bool true))∧OldK s₁.heap s'.heap∧s'.os=s₁.os∧AllBare s'.gens) s₁):
  WalkO q loose XP YP l.row.toRowW d [] (fun f vs=>PySem.call f vs):=by
 intro w s₀ s₁ mg mb G Y fa o pm cd doc dV kV ho hd hcd hD hmg hg args vals as hpre hlay hrd hwl hlo
 obtain rfl:dV= .none:=Dflts.none hD hdf
 obtain rfl:kV= .none:=Dflts.noKw hD
 obtain⟨a,vs,ns,rfl,rfl,hobj,hints,hlen⟩:=kN hn hpre hwl
 refine enter_call (codeAny_mono (call w s₀ s₁ mg mb fa o pm cd doc a vs ns G Y ho (fd_plain hd) hcd hmg hobj hints hlen hg) fun r s' hq=> ?_)
 obtain⟨rfl,h2,h3,h4⟩:=hq
 exact⟨.inl ⟨.bool true, .bool true,[],rfl,fun _=>rfl, .bool true,kO l _,fun _=>⟨List.Pairwise.nil,fun _ hm=>(nomatch hm)⟩⟩,h2,h3,h4⟩
section
variable {prog:Program} {w:World} {A:Around} {E:Value→Shared→Prop} {s:Shared} {K:Frag}
noncomputable def ledger (h:Heap) (L d:Addr):List (Addr×Obj):=(List.range h.objs.size).filterMap fun a=>if a=L∨a=d then none else(h.get? a).map fun o=>(a,o)
end
end Att
namespace L2
open PySem PySem.Spec PyProof.Rows
theorem fJ: ∀ {vs:List Value} {ns:List Int},IntsAre vs ns→Vals (ns.map V.int) vs
 | _,_, .nil=> .nil
 | _,_, .cons n t h=> .cons ⟨t,rfl⟩ (fJ h)
def Only (H:Hp):Prop:= ∀ b,H b=none∨ ∃ o xs,H b=some (.frz o (.lst xs))
noncomputable abbrev KOf {K:PySem.W.Frag} {h:Heap} (_:K.In h):PySem.W.Frag:=K
structure Fun (K:PySem.W.Frag) (x qual:Str) (st:Stmt) (f:Addr) (fd:FuncData):Prop where
 ex: ∃ (oc:Value) (od:Option Addr) (kV doc pm:Value) (an:Option Addr) (cdv ct:Value) (osl:Array (Option Value)),
  fd=PySem.W.fnOf x qual (defArgs st) (defBody st) (defScope st) .none kV doc pm an cdv ct∧K.lookup f=some ⟨oc,od, .func fd,osl⟩∧PySem.W.codeIn K cdv qual=true
 kp:PySem.W.keepIn K (.ref f)=true
section
variable {P:Program} {w:World} {K:PySem.W.Frag} {mg:Str→Option Value} {base:Heap}
theorem Fun.binds {x qual:Str} {st:Stmt} {f:Addr} {fd:FuncData} {ps:List Str} (F:Fun K x qual st f fd)
  (h: ∀ (kV doc pm:Value) (an:Option Addr) (cdv ct:Value) (us:List Value),us.length=ps.length→bindArgs (PySem.W.fnOf x qual (defArgs st) (defBody st) (defScope st) .none kV doc pm an cdv ct) ⟨us,[]⟩=pure (ps.zip us)):Binds K fd ps []:=by
 obtain⟨oc,od,kV,doc,pm,an,cdv,ct,osl,rfl,lk,hcd⟩:=F.ex
 exact .all (h kV doc pm an cdv ct)
theorem kP {x qual:Str} {st:Stmt} {f:Addr} {oc:Value} {od an:Option Addr} {osl:Array (Option Value)} {kV doc pm cdv ct:Value} (l:K.lookup f=some ⟨oc,od, .func (PySem.W.fnOf x qual (defArgs st) (defBody st) (defScope st) .none kV doc pm an cdv ct),osl⟩)
  (c:PySem.W.codeIn K cdv qual=true) (k:PySem.W.keepIn K (.ref f)=true):Fun K x qual st f (PySem.W.fnOf x qual (defArgs st) (defBody st) (defScope st) .none kV doc pm an cdv ct):=⟨⟨oc,od,kV,doc,pm,an,cdv,ct,osl,rfl,l,c⟩,k⟩
end
section
variable {X:Cx}
end
theorem iteF {A B:Prop} (h:B):if false=true then A else B:=by
 rw [if_neg Bool.false_ne_true]
 exact h
theorem iteT {A B:Prop} (h:A):if true=true then A else B:=by
 rw [if_pos rfl]
 exact h
def Same (H H':Hp):Prop:= ∀ b o,H b=some o→H' b=some o
theorem Same.refl (H:Hp):Same H H:=fun _ _ h=>h
theorem Same.trans {H H1 H2:Hp} (a:Same H H1) (b:Same H1 H2):Same H H2:=fun c o h=>b c o (a c o h)
theorem Same.free {H H':Hp} (e:Same H H') {l:Addr} (h:H' l=Option.none):H l=Option.none:=by
 cases q:H l with
 | none=>rfl
 | some o=>
  rw [e l o q] at h
  cases h
theorem Same.seq {K:PySem.W.Frag} {H H':Hp} {a:Addr} {xs:List V} (e:Same H H') (h:SqL K H a xs):SqL K H' a xs:=by
 rcases h with (h | ⟨o,h⟩) | h
 ·exact .inl (.inl (e _ _ h))
 ·exact .inl (.inr ⟨o,e _ _ h⟩)
 ·exact .inr h
end L2
namespace SK
open PySem PySem.Spec PyProof.Rows L2
open PySem.AutoSeq1 (wpAny_loadPart' idx_int)
theorem fK (l:Addr) (items:Array Value) (n:Nat) (b:Addr) (items2:Array Value) (n2:Nat) (dd2:Option Addr) (sl2:Array (Option Value)) (hc0: ¬(!items.isEmpty&&Builtin.List.listTooLong (items.size+items2.size))=true) (hc1:items.size≤sizeLine) (hs2:items.size+items2.size≤sizeLine+1):
  Meets (Builtin.«list.extend» ⟨[.ref l, .ref b],[]⟩) (fun _ R s=>s.heap.get? l=some { cls:= .type "list",dict:=none,data:= .seq items n,slots:= #[] }∧s.heap.get? b=some { cls:= .type "list",dict:=dd2,data:= .seq items2 n2,slots:=sl2 }∧R (.ok (.ret Value.none)) { s with heap:=s.heap.update l (Obj.mapSeq fun x=>x++items2),toks:=s.toks }):=
 .of_wp fun prog w A R s h=>by
  obtain⟨hp,g,d,tk,os⟩:=s;obtain⟨hl,hb,h⟩:=h;have f1:=idx_int;have f2:=AutoSeq1.sub_tuple_tuple;have f3:=AutoSeq1.sub_list_list;have f4:=AutoSeq1.sub_tuple_list;have f5:=AutoSeq1.sub_list_tuple;
  have hz':(items++items2).size≤sizeLine+1:=by rw [Array.size_append];exact hs2
  wp_walk using (wpAny_updateSeq hl rfl (hz:=hc1) (_hz':=hz')),wpAny_loadPart' hl,wpAny_loadPart' hb;exact⟨_,rfl,h⟩
theorem bJ (a:Int) (t:Tok) (l:Addr) (items:Array Value) (n:Nat) (T:String) (dd:Option Addr) (sl:Array (Option Value)) (hT:T="list"∨T="tuple"):
  Meets (Builtin.«int.__rmul__» ⟨[.int a t, .ref l],[]⟩) (fun _ R s=>s.heap.get? l=some { cls:= .type T,dict:=dd,data:= .seq items n,slots:=sl }∧R (.ok (.ret Value.notImplemented)) s):=
 .of_wp fun prog w A R s h=>by
  obtain⟨hp,g,d,tk,os⟩:=s;obtain⟨hl,h⟩:=h
  rcases hT with rfl | rfl<;>(wp_walk using wpAny_loadPart' hl;exact⟨_,rfl,h⟩)
theorem kQ (l:Addr) (items:Array Value) (n:Nat) (x:Int) (u:Tok) (dd:Option Addr) (sl:Array (Option Value)) (hc0: ¬(!Builtin.List.listFitsIndex x)=true) (hc1: ¬items.size * x.toNat > (2 ^ 63 - 1) / 8) (hc2: ¬Builtin.List.listTooLong (items.size * x.toNat)=true):
  Meets (Builtin.«list.__mul__» ⟨[.ref l, .int x u],[]⟩) (fun _ R s=>s.heap.get? l=some { cls:= .type "list",dict:=dd,data:= .seq items n,slots:=sl }∧R (.ok (.ret (Value.ref s.heap.objs.size))) { s with heap:=s.heap.push { cls:=Value.type "list",data:=Data.seq (List.foldl (fun x1 x2=>x1++x2) #[] (List.replicate (if items.isEmpty=true then 0 else x.toNat) items)) },toks:=s.toks }):=
 .of_wp fun prog w A R s h=>by
  obtain⟨hp,g,d,tk,os⟩:=s;obtain⟨hl,h⟩:=h
  have hsz:=AutoListH.joined_fits hc2
  wp_walk using wpAny_loadPart' hl;refine wpAny_ite_false (decide_eq_false (Nat.not_lt.mpr hsz)) ?_;wp_walk;exact⟨_,rfl,h⟩
open PySem.AutoSeq1 (wpAny_loadPart' idx_int)
theorem gN (l:Addr) (items:Array Value) (n:Nat) (x:Int) (u:Tok) (dd:Option Addr) (sl:Array (Option Value)) (h0:(decide (x< -(2 ^ 63))||decide (x≥2 ^ 63))=false) (hc:(items.isEmpty||x==1)=true):
  Meets (Builtin.«tuple.__mul__» ⟨[.ref l, .int x u],[]⟩) (fun _ R s=>s.heap.get? l=some { cls:= .type "tuple",dict:=dd,data:= .seq items n,slots:=sl }∧R (.ok (.ret (Value.ref l))) s):=
 .of_wp fun prog w A R s h=>by
  obtain⟨hp,g,d,tk,os⟩:=s;obtain⟨hl,h⟩:=h
  have f1:=idx_int
  wp_walk;refine wpAny_ite_false (by rw [h0];rfl) ?_;wp_walk using wpAny_loadPart' hl;exact⟨_,rfl,h⟩
theorem gO (l:Addr) (items:Array Value) (n:Nat) (x:Int) (u:Tok) (dd:Option Addr) (sl:Array (Option Value)) (h0:(decide (x< -(2 ^ 63))||decide (x≥2 ^ 63))=false) (hc: ¬(items.isEmpty||x==1)=true) (hc1:(x≤0||items.isEmpty)=true):
  Meets (Builtin.«tuple.__mul__» ⟨[.ref l, .int x u],[]⟩) (fun _ R s=>s.heap.get? l=some { cls:= .type "tuple",dict:=dd,data:= .seq items n,slots:=sl }∧R (.ok (.ret (Value.ref s.heap.objs.size))) { s with heap:=s.heap.push { cls:=Value.type "tuple",data:=Data.seq #[] },toks:=s.toks }):=
 .of_wp fun prog w A R s h=>by
  obtain⟨hp,g,d,tk,os⟩:=s;obtain⟨hl,h⟩:=h
  have f1:=idx_int
  wp_walk;refine wpAny_ite_false (by rw [h0];rfl) ?_;wp_walk using wpAny_loadPart' hl;exact⟨_,rfl,h⟩
theorem gP (l:Addr) (items:Array Value) (n:Nat) (x:Int) (u:Tok) (dd:Option Addr) (sl:Array (Option Value)) (h0:(decide (x< -(2 ^ 63))||decide (x≥2 ^ 63))=false) (hc: ¬(items.isEmpty||x==1)=true) (hc1: ¬(x≤0||items.isEmpty)=true)
  (hc2: ¬ (items.size:Int) * x > (2 ^ 63 - 1) / 8) (hc3: ¬ Builtin.Tuple.tupleTooMany (items.size * x)=true) (hsz:(List.foldl (fun x1 x2=>x1++x2) #[] (List.replicate x.toNat items)).size≤sizeLine):
  Meets (Builtin.«tuple.__mul__» ⟨[.ref l, .int x u],[]⟩) (fun _ R s=>s.heap.get? l=some { cls:= .type "tuple",dict:=dd,data:= .seq items n,slots:=sl }∧R (.ok (.ret (Value.ref s.heap.objs.size))) { s with heap:=s.heap.push { cls:=Value.type "tuple",data:=Data.seq (List.foldl (fun x1 x2=>x1++x2) #[] (List.replicate x.toNat items)) },toks:=s.toks }):=
 .of_wp fun prog w A R s h=>by
  obtain⟨hp,g,d,tk,os⟩:=s;obtain⟨hl,h⟩:=h
  have f1:=idx_int
  wp_walk;refine wpAny_ite_false (by rw [h0];rfl) ?_;wp_walk using wpAny_loadPart' hl;refine wpAny_ite_false (decide_eq_false hc2) ?_;wp_walk;exact⟨_,rfl,h⟩
theorem cP:fillsNumberSlot (.type "tuple") "mul"=pure false:=
 PySem.fillsNumberSlot_seq (id:="tuple.__mul__") (r:=some (.builtin "tuple.__rmul__")) F.slot_tuple_mul.lookup (by decide+kernel) F.slot_tuple_rmul.lookup (by decide+kernel)
theorem fL:seqRepeat? (.type "tuple")=pure (some (.builtin "tuple.__mul__")):=by
 unfold seqRepeat?
 rw [PySem.seqSlot_of (T:="tuple") (name:="__mul__") (id:="tuple.__mul__") F.slot_tuple_mul.lookup (by decide+kernel),PySem.seqSlot_of (T:="tuple") (name:="__rmul__") (id:="tuple.__rmul__") F.slot_tuple_rmul.lookup (by decide+kernel)]
 rfl
inductive D where
 | non | bl (b:Bool) | int (i:Int) | str (x:Str)
 | tup (xs:List D) | lst (xs:List D)
 | exc (c:Nat) | fn (f:Nat)
 deriving Inhabited
noncomputable def b2i (b:Bool):Int:=if b then 1 else 0
mutual
noncomputable def deq:D→D→Bool
 | .non, .non=>true
 | .bl a, .bl b=>a==b
 | .bl a, .int j=>b2i a==j
 | .int i, .bl b=>i==b2i b
 | .int i, .int j=>i==j
 | .str x, .str y=>x==y
 | .tup xs, .tup ys=>deqs xs ys
 | .lst xs, .lst ys=>deqs xs ys
 | _,_=>false
noncomputable def deqs:List D→List D→Bool
 | [],[]=>true
 | x::xs,y::ys=>deq x y&&deqs xs ys
 | _,_=>false
end
mutual
noncomputable def plain:D→Bool
 | .non=>true
 | .bl _=>true
 | .int _=>true
 | .str x=>x.cps.all (· <0x110000)
 | .tup xs=>plains xs
 | .lst xs=>plains xs
 | .exc _=>false
 | .fn _=>false
noncomputable def plains:List D→Bool
 | []=>true
 | x::xs=>plain x&&plains xs
end
mutual
noncomputable def dep:D→Nat
 | .tup xs=>deps xs+1
 | .lst xs=>deps xs+1
 | _=>0
noncomputable def deps:List D→Nat
 | []=>0
 | x::xs=>max (dep x) (deps xs)
end
noncomputable def eqOk (x y:D):Bool:=plain x&&plain y&&decide (min (dep x) (dep y)≤60)
inductive R where
 | ok (d:D) | ow (xs:List D) | ex (c:Nat) | bad
noncomputable def R.bind (r:R) (k:D→R):R:=match r with
 | .ok d=>k d
 | .ow xs=>k (.lst xs)
 | .ex c=> .ex c
 | .bad=> .bad
inductive Slot where
 | no | sh (d:D) | ow (xs:List D) | dc (kvs:List (D×D)) | sd (kvs:List (D×D))
noncomputable def Slot.owns:Slot→Bool
 | .ow _=>true
 | .dc _=>true
 | _=>false
abbrev Rho:=List Slot
abbrev F:=Rho→R
inductive Out where
 | nx (ρ:Rho) | rt (r:R) | bk (ρ:Rho) | ct (ρ:Rho) | ex (c:Nat) (ρ:Rho)
abbrev FS:=Rho→Out
abbrev Fn:=List D→R
noncomputable def LIM:Nat:=100000
noncomputable def num:D→Option Int
 | .int i=>some i
 | .bl b=>some (b2i b)
 | _=>none
noncomputable def sml (i:Int):Bool:=decide (-18446744073709551616<i)&&decide (i<18446744073709551616)
noncomputable def dArith (op:Operator) (i j:Int):R:=match op with
 | .Add=> .ok (.int (i+j))
 | .Sub=> .ok (.int (i - j))
 | .Mult=>if sml i||sml j then .ok (.int (i * j)) else .bad
 | .FloorDiv=>if 0<j∧j<1073741824 then .ok (.int (i / j)) else .bad
 | .Mod=>if 0<j then .ok (.int (i % j)) else .bad
 | .LShift=>if 0≤j∧j≤1000∧sml i=true then .ok (.int (i * 2 ^ j.toNat)) else .bad
 | .RShift=>if 0≤j then .ok (.int (i / 2 ^ j.toNat)) else .bad
 | _=> .bad
noncomputable def repL (xs:List D) (k:Int):List D:=(List.replicate k.toNat xs).flatten
noncomputable def dBin (op:Operator) (x y:D):R:=match x,y with
 | .int i, .int j=>(match op with
  | .BitAnd=> .ok (.int (Builtin.bitAnd i j))
  | .BitOr=> .ok (.int (Builtin.bitOr i j))
  | .BitXor=> .ok (.int (Builtin.bitXor i j))
  | op=>dArith op i j)
 | .int i, .bl b=>(match op with
  | .Sub=> .ok (.int (i - b2i b))
  | .Add=> .ok (.int (i+b2i b))
  | _=> .bad)
 | .tup xs, .tup ys=>(match op with
  | .Add=>if xs.length+ys.length≤LIM then .ok (.tup (xs++ys)) else .bad
  | _=> .bad)
 | .lst xs, .lst ys=>(match op with
  | .Add=>if xs.length+ys.length≤LIM then .ow (xs++ys) else .bad
  | _=> .bad)
 | .tup xs, .int k=>(match op with
  | .Mult=>if -1000000<k∧k<1000000∧xs.length * k.toNat≤LIM then .ok (.tup (repL xs k)) else .bad
  | _=> .bad)
 | .lst xs, .int k=>(match op with
  | .Mult=>if -1000000<k∧k<1000000∧xs.length * k.toNat≤LIM then .ow (repL xs k) else .bad
  | _=> .bad)
 | _,_=> .bad
noncomputable def items:D→Option (List D)
 | .tup xs=>some xs
 | .lst xs=>some xs
 | _=>none
noncomputable def isNon:D→Bool
 | .non=>true
 | _=>false
noncomputable def isBl (b:Bool):D→Bool
 | .bl a=>a==b
 | _=>false
noncomputable def inOk (x:D) (ys:List D):Bool:=ys.all fun y=>eqOk y x
noncomputable def dCmp (op:CmpOp) (x y:D):R:=match op with
 | .Eq=>if eqOk x y then .ok (.bl (deq x y)) else .bad
 | .NotEq=>if eqOk x y then .ok (.bl (!deq x y)) else .bad
 | .Lt=>(match x,y with | .int i, .int j=> .ok (.bl (decide (i<j))) | _,_=> .bad)
 | .LtE=>(match x,y with | .int i, .int j=> .ok (.bl (decide (i≤j))) | _,_=> .bad)
 | .Gt=>(match x,y with | .int i, .int j=> .ok (.bl (decide (j<i))) | _,_=> .bad)
 | .GtE=>(match x,y with | .int i, .int j=> .ok (.bl (decide (j≤i))) | _,_=> .bad)
 | .Is=>(match y with
  | .non=> .ok (.bl (isNon x))
  | .bl b=> .ok (.bl (isBl b x))
  | _=> .bad)
 | .IsNot=>(match y with
  | .non=> .ok (.bl (!isNon x))
  | .bl b=> .ok (.bl (!isBl b x))
  | _=> .bad)
 | .In=>(match items y with | some ys=>if inOk x ys then .ok (.bl (ys.any fun y=>deq y x)) else .bad | none=> .bad)
 | .NotIn=>(match items y with | some ys=>if inOk x ys then .ok (.bl (!ys.any fun y=>deq y x)) else .bad | none=> .bad)
noncomputable def ixD (n:Nat) (i:Int):Option Nat:=if 0≤i then(if i<n then some i.toNat else none) else if -(n:Int)≤i then some (i+n).toNat else none
noncomputable def dIx (x y:D):R:=match items x,y with
 | some xs, .int i=>(match(ixD xs.length i).bind fun j=>xs[j]? with | some d=> .ok d | none=> .bad)
 | _,_=> .bad
noncomputable def cutIx (n d:Nat):Option Int→Nat
 | none=>d
 | some v=>if v<0 then(v+n).toNat else min v.toNat n
noncomputable def cutD (xs:List D) (lo hi:Option Int):List D:=(xs.drop (cutIx xs.length 0 lo)).take (cutIx xs.length xs.length hi - cutIx xs.length 0 lo)
noncomputable def dCut (x:D) (lo hi:Option Int):R:=match x with
 | .tup xs=> .ok (.tup (cutD xs lo hi))
 | .lst xs=> .ow (cutD xs lo hi)
 | _=> .bad
noncomputable def pInt:D→(Int→R)→R
 | .int i,k=>k i
 | _,_=> .bad
noncomputable def rVar (i:Nat):F:=fun ρ=>match ρ[i]? with | some (.sh d)=> .ok d | _=> .bad
noncomputable def rLook (i:Nat):F:=fun ρ=>match ρ[i]? with | some (.sh d)=> .ok d | some (.ow xs)=> .ok (.lst xs) | _=> .bad
noncomputable def rGive (i:Nat):F:=fun ρ=>match ρ[i]? with | some (.sh d)=> .ok d | some (.ow xs)=> .ow xs | _=> .bad
noncomputable def rK (d:D):F:=fun _=> .ok d
noncomputable def rBin (op:Operator) (a b:F):F:=fun ρ=>(a ρ).bind fun x=>(b ρ).bind fun y=>dBin op x y
noncomputable def rNeg (a:F):F:=fun ρ=>(a ρ).bind fun x=>match x with | .int i=> .ok (.int (-i)) | _=> .bad
noncomputable def rNot (a:F):F:=fun ρ=>(a ρ).bind fun x=>match x with | .bl b=> .ok (.bl (!b)) | _=> .bad
noncomputable def rAnd (a b:F):F:=fun ρ=>(a ρ).bind fun x=>match x with | .bl true=>b ρ | .bl false=> .ok (.bl false) | _=> .bad
noncomputable def rOr (a b:F):F:=fun ρ=>(a ρ).bind fun x=>match x with | .bl true=> .ok (.bl true) | .bl false=>b ρ | _=> .bad
noncomputable def rIf (c a b:F):F:=fun ρ=>(c ρ).bind fun x=>match x with | .bl true=>a ρ | .bl false=>b ρ | _=> .bad
noncomputable def rCmp (op:CmpOp) (a b:F):F:=fun ρ=>(a ρ).bind fun x=>(b ρ).bind fun y=>dCmp op x y
noncomputable def rChain (op op':CmpOp) (a b c:F):F:=fun ρ=>(a ρ).bind fun x=>(b ρ).bind fun y=>(dCmp op x y).bind fun z=>match z with
 | .bl true=>(c ρ).bind fun w=>dCmp op' y w
 | .bl false=> .ok (.bl false)
 | _=> .bad
inductive RA where
 | ok (ds:List D) | ex (c:Nat) | bad
noncomputable def RA.cons (x:D):RA→RA
 | .ok ds=> .ok (x::ds)
 | .ex c=> .ex c
 | .bad=> .bad
noncomputable def RA.then (r:RA) (k:List D→R):R:=match r with
 | .ok ds=>k ds
 | .ex c=> .ex c
 | .bad=> .bad
noncomputable def args:List F→Rho→RA
 | [],_=> .ok []
 | f::fs,ρ=>match f ρ with
  | .ok x=>(args fs ρ).cons x
  | .ow xs=>(args fs ρ).cons (.lst xs)
  | .ex c=> .ex c
  | .bad=> .bad
noncomputable def rAll (fs:List F) (ρ:Rho) (k:List D→R):R:=(args fs ρ).then k
noncomputable def rTup (fs:List F):F:=fun ρ=>rAll fs ρ fun xs=> .ok (.tup xs)
noncomputable def rLst (fs:List F):F:=fun ρ=>rAll fs ρ fun xs=> .ow xs
noncomputable def rIx (a b:F):F:=fun ρ=>(a ρ).bind fun x=>(b ρ).bind fun y=>dIx x y
noncomputable def rCut (a:F) (lo hi:Option F):F:=fun ρ=>(a ρ).bind fun x=>match lo,hi with
 | none,none=>dCut x none none
 | some l,none=>(l ρ).bind fun y=>pInt y fun i=>dCut x (some i) none
 | none,some h=>(h ρ).bind fun z=>pInt z fun j=>dCut x none (some j)
 | some l,some h=>(l ρ).bind fun y=>pInt y fun i=>(h ρ).bind fun z=>pInt z fun j=>dCut x (some i) (some j)
noncomputable def rCall (f:Fn) (fs:List F):F:=fun ρ=>rAll fs ρ f
noncomputable def rCallV (tab:List (Nat×Fn)) (g:F) (fs:List F):F:=fun ρ=>(g ρ).bind fun x=>match x with
 | .fn k=>(match tab[k]? with | some (n,f)=>if n=fs.length then rAll fs ρ f else .bad | none=> .bad)
 | _=> .bad
noncomputable def rMeth (r:Fn) (a b:F):F:=fun ρ=>(a ρ).bind fun x=>match x with | .lst ds=>(b ρ).bind fun y=>r [.lst ds,y] | _=> .bad
noncomputable def rIs (p:D→Option Bool) (a:F):F:=fun ρ=>(a ρ).bind fun x=>match p x with | some b=> .ok (.bl b) | none=> .bad
noncomputable def compGo (f:D→Option (Option D)):List D→Option (List D)
 | []=>some []
 | d::r=>match f d with
  | none=>none
  | some none=>compGo f r
  | some (some x)=>(compGo f r).map (x:: ·)
noncomputable def tgt (n:Nat) (d:D):Option (List Slot):=match n with
 | 0=>some [.sh d]
 | n=>match d with
  | .tup ds=>if ds.length=n then some (ds.map Slot.sh) else none
  | _=>none
noncomputable def caps (cs:List Nat) (ρ:Rho):List Slot:=cs.map fun i=>(ρ[i]?).getD .no
noncomputable def compF (n:Nat) (cs:List Slot) (c:Option F) (e:F) (d:D):Option (Option D):=match tgt n d with
 | none=>none
 | some ts=>match c with
  | none=>(match e (ts++cs) with | .ok x=>some (some x) | .ow xs=>some (some (.lst xs)) | _=>none)
  | some c=>match c (ts++cs) with
   | .ok (.bl true)=>(match e (ts++cs) with | .ok x=>some (some x) | .ow xs=>some (some (.lst xs)) | _=>none)
   | .ok (.bl false)=>some none
   | _=>none
noncomputable def rComp (n:Nat) (cs:List Nat) (it:F) (c:Option F) (e:F):F:=fun ρ=>(it ρ).bind fun x=>match items x with
 | some ds=>(match compGo (compF n (caps cs ρ) c e) ds with | some xs=> .ow xs | none=> .bad)
 | none=> .bad
noncomputable def rngD (n:Nat):List D:=(List.range n).map fun(i:Nat)=>D.int (i:Int)
noncomputable def iRange (a:F):F:=fun ρ=>(a ρ).bind fun x=>pInt x fun i=>if -100000≤i∧i≤100000 then .ok (.lst (rngD i.toNat)) else .bad
noncomputable def iEnum (a:F):F:=fun ρ=>(a ρ).bind fun x=>match items x with
 | some xs=> .ok (.lst (xs.zipIdx.map fun p=>D.tup [.int (p.2:Nat),p.1]))
 | none=> .bad
noncomputable def iZip (a b:F):F:=fun ρ=>(a ρ).bind fun x=>(b ρ).bind fun y=>match x,y with
 | .tup xs, .tup ys=> .ok (.lst ((xs.zip ys).map fun p=>D.tup [p.1,p.2]))
 | .lst xs, .lst ys=> .ok (.lst ((xs.zip ys).map fun p=>D.tup [p.1,p.2]))
 | .lst xs, .tup ys=> .ok (.lst ((xs.zip ys).map fun p=>D.tup [p.1,p.2]))
 | .tup xs, .lst ys=> .ok (.lst ((xs.zip ys).map fun p=>D.tup [p.1,p.2]))
 | _,_=> .bad
noncomputable def dLen:Fn | [x]=>(match items x with | some xs=> .ok (.int xs.length) | none=> .bad) | _=> .bad
noncomputable def dInt:Fn | [.int i]=> .ok (.int i) | [.bl b]=> .ok (.int (b2i b)) | _=> .bad
noncomputable def dTuple:Fn | [x]=>(match items x with | some xs=> .ok (.tup xs) | none=> .bad) | _=> .bad
noncomputable def dList:Fn | [x]=>(match items x with | some xs=> .ow xs | none=> .bad) | _=> .bad
noncomputable def dInts:List D→Option (List Int)
 | []=>some []
 | .int i::r=>(dInts r).map (i:: ·)
 | _::_=>none
noncomputable def dBools:List D→Option (List Bool)
 | []=>some []
 | .bl b::r=>(dBools r).map (b:: ·)
 | _::_=>none
noncomputable def dSum:Fn | [x]=>(match(items x).bind dInts with | some xs=> .ok (.int xs.sum) | none=> .bad) | _=> .bad
noncomputable def dAll:Fn | [x]=>(match(items x).bind dBools with | some xs=> .ok (.bl (xs.all id)) | none=> .bad) | _=> .bad
noncomputable def dAny:Fn | [x]=>(match(items x).bind dBools with | some xs=> .ok (.bl (xs.any id)) | none=> .bad) | _=> .bad
noncomputable def dMax:Fn | [.int i, .int j]=> .ok (.int (if j > i then j else i)) | _=> .bad
noncomputable def dMin:Fn | [.int i, .int j]=> .ok (.int (if j<i then j else i)) | _=> .bad
noncomputable def maxL:Int→List Int→Int
 | m,[]=>m
 | m,i::r=>maxL (if m<i then i else m) r
noncomputable def minL:Int→List Int→Int
 | m,[]=>m
 | m,i::r=>minL (if i<m then i else m) r
noncomputable def dMax1:Fn | [x]=>(match(items x).bind dInts with | some (n::ns)=> .ok (.int (maxL n ns)) | _=> .bad) | _=> .bad
noncomputable def dAbs:Fn | [.int i]=> .ok (.int (if i<0 then -i else i)) | _=> .bad
noncomputable def insI (i:Int):List Int→List Int
 | []=>[i]
 | j::r=>if i≤j then i::j::r else j::insI i r
noncomputable def sortI:List Int→List Int
 | []=>[]
 | i::r=>insI i (sortI r)
noncomputable def lexB:List Int→List Int→Bool
 | [],[]=>false
 | [],_::_=>true
 | _::_,[]=>false
 | a::r,b::t=>if a=b then lexB r t else decide (a<b)
mutual
noncomputable def same:D→D→Bool
 | .int _, .int _=>true
 | .tup xs, .tup ys=>sames xs ys
 | _,_=>false
noncomputable def sames:List D→List D→Bool
 | [],[]=>true
 | x::xs,y::ys=>same x y&&sames xs ys
 | _,_=>false
end
mutual
noncomputable def flat:D→List Int
 | .int i=>[i]
 | .tup xs=>flats xs
 | _=>[]
noncomputable def flats:List D→List Int
 | []=>[]
 | x::xs=>flat x++flats xs
end
noncomputable def ltD (x y:D):Bool:=lexB (flat x) (flat y)
noncomputable def insD (a:D):List D→List D
 | []=>[a]
 | b::r=>if ltD b a then b::insD a r else a::b::r
noncomputable def sortD:List D→List D
 | []=>[]
 | a::r=>insD a (sortD r)
noncomputable def minD (d:D):List D→D
 | []=>d
 | e::r=>minD (if ltD e d then e else d) r
noncomputable def isTupN:D→Bool
 | .tup (_::_)=>true
 | _=>false
noncomputable def isTup0:D→Bool
 | .tup _=>true
 | _=>false
noncomputable def dNest:List D→Bool
 | []=>false
 | d::r=>isTup0 d&&(r.isEmpty||isTupN d)&&decide (dep d≤8)&&same d d&&r.all (same d)
noncomputable def ddS' (acc:List D) (d:D):List D:=if acc.any (fun e=>deq e d) then acc else acc++[d]
noncomputable def ddD (ds:List D):List D:=ds.foldl ddS' []
noncomputable def dMinN (ds:List D):R:=if dNest ds then(match ds with | d::r=> .ok (minD d r) | []=> .bad) else .bad
noncomputable def dMinL (ds:List D):R:=match dInts ds with
 | some ns=>(match ns with | n::r=> .ok (.int (minL n r)) | []=> .bad)
 | none=>dMinN ds
noncomputable def dMin1:Fn | [x]=>(match items x with | some ds=>dMinL ds | none=> .bad) | _=> .bad
noncomputable def nW (ds:List D):R:=if dNest ds&&decide (ds.length<64) then .ow (sortD ds) else .bad
noncomputable def nX (ds:List D):R:=match dInts ds with
 | some ns=>if ns.length<64 then .ow ((sortI ns).map D.int) else .bad
 | none=>nW ds
noncomputable def dSorted:Fn | [x]=>(match items x with | some ds=>nX ds | none=> .bad) | _=> .bad
noncomputable def ss16 (ns:List Int):List Int:=((List.range 17).filter fun(k:Nat)=>ns.contains (k:Int)).map fun(k:Nat)=>(k:Int)
noncomputable def in16 (ns:List Int):Bool:=ns.all fun n=>decide (0≤n∧n<17)
noncomputable def dSSN (ds:List D):R:=if dNest ds&&decide ((ddD ds).length<64) then .ow (sortD (ddD ds)) else .bad
noncomputable def dSSL (ds:List D):R:=match dInts ds with | some ns=>if in16 ns then .ow ((ss16 ns).map D.int) else .bad | none=>dSSN ds
noncomputable def dSS:Fn | [x]=>(match x with | .lst ds=>dSSL ds | _=> .bad) | _=> .bad
noncomputable def dLSL (ds:List D):R:=match dInts ds with | some ns=>if in16 ns then .ok (.int ((ss16 ns).length:Nat)) else .bad | none=> .bad
noncomputable def dLS:Fn | [x]=>(match x with | .lst ds=>dLSL ds | _=> .bad) | _=> .bad
noncomputable def maxD (i:Int):List Int→Int
 | []=>i
 | n::ns=>maxL n ns
noncomputable def dMaxD (i:Int):Fn | [x]=>(match(items x).bind dInts with | some ns=> .ok (.int (maxD i ns)) | none=> .bad) | _=> .bad
noncomputable def dCount:Fn | [.lst ys,x]=>if inOk x ys then .ok (.int ((ys.countP fun y=>deq y x):Nat)) else .bad | _=> .bad
noncomputable def dIndex:Fn | [.lst ys,x]=>if inOk x ys then(match ys.findIdx? fun y=>deq y x with | some k=> .ok (.int (k:Nat)) | none=> .bad) else .bad | _=> .bad
noncomputable def dRev (x:D):R:=match x with | .lst xs=> .ow xs.reverse | .tup xs=> .ok (.tup xs.reverse) | _=> .bad
noncomputable def dBits:Fn | [x]=>(match x with | .int i=> .ok (.int (Builtin.Int.intBits i)) | _=> .bad) | _=> .bad
noncomputable def rRev (a:F):F:=fun ρ=>(a ρ).bind dRev
noncomputable def stepL {α:Type} (xs:List α) (lo:Nat):List α:=(List.range ((xs.length - lo+1) / 2)).filterMap fun k=>xs[lo+2 * k]?
noncomputable def dStep (x y:D):R:=match x with | .tup xs=>(match y with | .int i=>if 0≤i then .ok (.tup (stepL xs i.toNat)) else .bad | _=> .bad) | _=> .bad
noncomputable def rStep (a b:F):F:=fun ρ=>(a ρ).bind fun x=>(b ρ).bind fun y=>dStep x y
noncomputable def rTru (a:F):F:=fun ρ=>(a ρ).bind fun x=>match x with | .bl b=> .ok (.bl b) | .lst xs=> .ok (.bl (!xs.isEmpty)) | _=> .bad
noncomputable def rIdx (a b:F):F:=fun ρ=>(a ρ).bind fun x=>match x with | .tup ds=>(b ρ).bind fun y=>dIndex [.lst ds,y] | _=> .bad
noncomputable def rCnt (a b:F):F:=fun ρ=>(a ρ).bind fun x=>match items x with | some ds=>(b ρ).bind fun y=>dCount [.lst ds,y] | none=> .bad
noncomputable def orP (p q:D→Option Bool):D→Option Bool:=fun d=>match p d,q d with | some a,some b=>some (a||b) | _,_=>none
mutual
noncomputable def hkD:D→Bool
 | .non=>true
 | .int _=>true
 | .tup xs=>hkDs xs
 | _=>false
noncomputable def hkDs:List D→Bool
 | []=>true
 | x::xs=>hkD x&&hkDs xs
end
noncomputable def keyOk (k:D):Bool:=isTup0 k&&hkD k&&decide (dep k≤8)
noncomputable def hasK (kvs:List (D×D)) (k:D):Bool:=kvs.any fun p=>deq p.1 k
noncomputable def putK (kvs:List (D×D)) (k d:D):List (D×D):=if hasK kvs k then kvs.map (fun p=>if deq p.1 k then(p.1,d) else p) else kvs++[(k,d)]
noncomputable def inK (op:CmpOp) (b:Bool):R:=match op with
 | .In=> .ok (.bl b)
 | .NotIn=> .ok (.bl !b)
 | _=> .bad
noncomputable def rInS (op:CmpOp) (a:F) (i:Nat):F:=fun ρ=>(a ρ).bind fun x=>match ρ[i]? with
 | some (.dc kvs)=>if keyOk x then inK op (hasK kvs x) else .bad
 | some (.sd kvs)=>if keyOk x then inK op (hasK kvs x) else .bad
 | some (.sh y)=>dCmp op x y
 | some (.ow ys)=>dCmp op x (.lst ys)
 | _=> .bad
noncomputable def iLook (i:Nat):F:=fun ρ=>match ρ[i]? with
 | some (.dc kvs)=> .ok (.lst (kvs.map (·.1)))
 | some (.sd kvs)=> .ok (.lst (kvs.map (·.1)))
 | _=>rLook i ρ
noncomputable def getK (kvs:List (D×D)) (k:D):R:=if keyOk k then(match kvs.find? fun p=>deq p.1 k with | some p=> .ok p.2 | none=> .bad) else .bad
noncomputable def rGet (i:Nat) (g:F):F:=fun ρ=>match ρ[i]? with
 | some (.dc kvs)=>(g ρ).bind (getK kvs)
 | some (.sd kvs)=>(g ρ).bind (getK kvs)
 | _=> .bad
noncomputable def iSd (i:Nat):F:=fun ρ=>match ρ[i]? with
 | some (.sd kvs)=> .ok (.lst (kvs.map (·.1)))
 | _=>rVar i ρ
noncomputable def put (ρ:Rho) (i:Nat) (s:Slot):Rho:=ρ.set i s
noncomputable def frz1 (i:Nat) (ρ:Rho):Rho:=match ρ[i]? with | some (.ow xs)=>ρ.set i (.sh (.lst xs)) | some (.dc kvs)=>ρ.set i (.sd kvs) | _=>ρ
noncomputable def frz (is:List Nat) (ρ:Rho):Rho:=is.foldl (fun ρ i=>frz1 i ρ) ρ
noncomputable def sFrz (is:List Nat) (s:FS):FS:=fun ρ=>s (frz is ρ)
noncomputable def outR (ρ:Rho) (r:R) (k:D→Out):Out:=match r with
 | .ok d=>k d
 | .ow xs=>k (.lst xs)
 | .ex c=> .ex c ρ
 | .bad=> .rt .bad
noncomputable def sSet (i:Nat) (e:F):FS:=fun ρ=>outR ρ (e ρ) fun d=> .nx (ρ.set i (.sh d))
noncomputable def sOwn (i:Nat) (e:F):FS:=fun ρ=>match e ρ with
 | .ok d=> .nx (ρ.set i (.sh d))
 | .ow xs=> .nx (ρ.set i (.ow xs))
 | .ex c=> .ex c ρ
 | .bad=> .rt .bad
noncomputable def setN:List Nat→List D→Rho→Rho
 | i::is,d::ds,ρ=>setN is ds (ρ.set i (.sh d))
 | _,_,ρ=>ρ
noncomputable def sSetN (is:List Nat) (e:F):FS:=fun ρ=>outR ρ (e ρ) fun d=>match d with
 | .tup ds=>if ds.length=is.length then .nx (setN is ds ρ) else .rt .bad
 | .lst ds=>if ds.length=is.length then .nx (setN is ds ρ) else .rt .bad
 | _=> .rt .bad
noncomputable def sAug (i:Nat) (op:Operator) (e:F):FS:=fun ρ=>match ρ[i]? with
 | some (.sh (.int a))=>outR ρ (e ρ) fun d=>(match d,op with
  | .int b, .Add=> .nx (ρ.set i (.sh (.int (a+b))))
  | .int b, .Sub=> .nx (ρ.set i (.sh (.int (a - b))))
  | _,_=> .rt .bad)
 | _=> .rt .bad
noncomputable def sDrop (e:F):FS:=fun ρ=>outR ρ (e ρ) fun _=> .nx ρ
noncomputable def sRet (e:F):FS:=fun ρ=>match e ρ with
 | .ok d=> .rt (.ok d)
 | .ow xs=> .rt (.ow xs)
 | .ex c=> .ex c ρ
 | .bad=> .rt .bad
noncomputable def sRetN:FS:=fun _=> .rt (.ok .non)
noncomputable def sPass:FS:=fun ρ=> .nx ρ
noncomputable def sBrk:FS:=fun ρ=> .bk ρ
noncomputable def sCont:FS:=fun ρ=> .ct ρ
noncomputable def sSeq (a b:FS):FS:=fun ρ=>match a ρ with | .nx ρ'=>b ρ' | o=>o
noncomputable def sIf (c:F) (a b:FS):FS:=fun ρ=>match c ρ with
 | .ok (.bl true)=>a ρ
 | .ok (.bl false)=>b ρ
 | .ex c=> .ex c ρ
 | _=> .rt .bad
noncomputable def sRaise (c:Nat):FS:=fun ρ=> .ex c ρ
noncomputable def sApp (i:Nat) (e:F):FS:=fun ρ=>match ρ[i]? with
 | some (.ow xs)=>outR ρ (e ρ) fun d=>if xs.length<LIM then .nx (ρ.set i (.ow (xs++[d]))) else .rt .bad
 | _=> .rt .bad
noncomputable def sExt (i:Nat) (e:F):FS:=fun ρ=>match ρ[i]? with
 | some (.ow xs)=>outR ρ (e ρ) fun d=>(match d with
  | .lst ys=>if xs.length+ys.length≤LIM then .nx (ρ.set i (.ow (xs++ys))) else .rt .bad
  | _=> .rt .bad)
 | _=> .rt .bad
noncomputable def sPut (i:Nat) (k e:F):FS:=fun ρ=>outR ρ (e ρ) fun d=>match ρ[i]? with
 | some (.ow xs)=>outR ρ (k ρ) fun y=>(match y with
  | .int j=>(match ixD xs.length j with | some m=> .nx (ρ.set i (.ow (xs.set m d))) | none=> .rt .bad)
  | _=> .rt .bad)
 | some (.dc kvs)=>outR ρ (k ρ) fun y=>if keyOk y&&decide (kvs.length<LIM) then .nx (ρ.set i (.dc (putK kvs y d))) else .rt .bad
 | _=> .rt .bad
noncomputable def sDNew (i:Nat):FS:=fun ρ=> .nx (ρ.set i (.dc []))
noncomputable def sParD (i j:Nat) (e:F):FS:=fun ρ=>outR ρ (e ρ) fun d=> .nx ((ρ.set i (.sh d)).set j (.dc []))
noncomputable def sRem (i:Nat) (e:F):FS:=fun ρ=>match ρ[i]? with
 | some (.ow xs)=>outR ρ (e ρ) fun d=>(match d,dInts xs with
  | .int j,some ns=>if ns.contains j then .nx (ρ.set i (.ow ((ns.erase j).map D.int))) else .rt .bad
  | _,_=> .rt .bad)
 | _=> .rt .bad
noncomputable def two1:List D→Option (D×D)
 | [a,b]=>some (a,b)
 | _=>none
noncomputable def two2:D→Option (D×D)
 | .tup ds=>two1 ds
 | _=>none
noncomputable def sPut2 (i:Nat) (k l e:F):FS:=fun ρ=>outR ρ (e ρ) fun d=>(match two2 d with
 | some (d1,d2)=>(match ρ[i]? with
  | some (.ow xs)=>outR ρ (k ρ) fun y=>(match y with
   | .int j=>(match ixD xs.length j with
    | some m=>outR (ρ.set i (.ow (xs.set m d1))) (l (ρ.set i (.ow (xs.set m d1)))) fun z=>(match z with
     | .int j2=>(match ixD (xs.set m d1).length j2 with
      | some m2=> .nx ((ρ.set i (.ow (xs.set m d1))).set i (.ow ((xs.set m d1).set m2 d2)))
      | none=> .rt .bad)
     | _=> .rt .bad)
    | none=> .rt .bad)
   | _=> .rt .bad)
  | _=> .rt .bad)
 | none=> .rt .bad)
noncomputable def sAugS (i:Nat) (k e:F):FS:=fun ρ=>match ρ[i]? with
 | some (.ow xs)=>outR ρ (k ρ) fun y=>(match y with
  | .int j=>(match ixD xs.length j with
   | some m=>(match xs[m]? with
    | some (.int a)=>outR ρ (e ρ) fun d=>(match d with
     | .int b=> .nx (ρ.set i (.ow (xs.set m (.int (a+b)))))
     | _=> .rt .bad)
    | _=> .rt .bad)
   | none=> .rt .bad)
  | _=> .rt .bad)
 | _=> .rt .bad
noncomputable def tgtS (is:List Nat) (one:Bool) (d:D) (ρ:Rho):Option Rho:=match one,is with
 | true,[i]=>some (ρ.set i (.sh d))
 | false,is=>(match d with
  | .tup ds=>if ds.length=is.length then some (setN is ds ρ) else none
  | _=>none)
 | _,_=>none
noncomputable def forGo (t:D→Rho→Option Rho) (b:FS):List D→Rho→Out
 | [],ρ=> .nx ρ
 | d::r,ρ=>match t d ρ with
  | none=> .rt .bad
  | some ρ1=>match b ρ1 with
   | .nx ρ2=>forGo t b r ρ2
   | .ct ρ2=>forGo t b r ρ2
   | .bk ρ2=> .nx ρ2
   | .rt r=> .rt r
   | .ex c ρ2=> .ex c ρ2
noncomputable def sFor (is:List Nat) (one:Bool) (it:F) (b:FS):FS:=fun ρ=>outR ρ (it ρ) fun x=>match items x with
 | some ds=>forGo (tgtS is one) b ds ρ
 | none=> .rt .bad
noncomputable def sForX (t i:Nat) (g:FS):FS:=fun ρ=>match ρ[i]? with
 | some (.ow ds)=>forGo (tgtS [t] true) g ds ρ
 | _=> .rt .bad
noncomputable def whileGo (c:F) (b:FS):Nat→FS
 | 0=>fun _=> .rt .bad
 | n+1=>fun ρ=>match c ρ with
  | .ok (.bl true)=>(match b ρ with
   | .nx ρ'=>whileGo c b n ρ'
   | .ct ρ'=>whileGo c b n ρ'
   | .bk ρ'=> .nx ρ'
   | .rt r=> .rt r
   | .ex k ρ'=> .ex k ρ')
  | .ok (.bl false)=> .nx ρ
  | .ex k=> .ex k ρ
  | _=> .rt .bad
noncomputable def sWhile (c:F) (b:FS):FS:=whileGo c b 1000
noncomputable def sBad:FS:=fun _=> .rt .bad
noncomputable def sTry (i j:Nat) (hit:Nat→Bool) (b:FS):FS:=fun ρ=>match b ρ with
 | .ex c ρ'=>if hit c then .nx ((ρ'.set i .no).set j (.sh (.exc c))) else .ex c ρ'
 | o=>o
noncomputable def fnOf (n:Nat) (b:FS):Fn:=fun ds=>match b (ds.map Slot.sh++List.replicate (n - ds.length) .no) with
 | .rt (.ok d)=> .ok d
 | .rt (.ow xs)=> .ow xs
 | .rt _=> .bad
 | .nx _=> .ok .non
 | .ex c _=> .ex c
 | _=> .bad
inductive Py where
 | len | range | enum | zip | isin | int | bool | str | tuple | list | sum | all | any | sorted | min | max | abs | set
 deriving DecidableEq
inductive Gl where
 | fn (k n:Nat) (f:Fn) | exc (c:Nat) | verr | val (d:D) | py (p:Py)
noncomputable def hit (c e:Nat):Bool:=c==e||c==0||c==100
structure Ctx where
 tab:List (Str×Gl)
 fns:List (Nat×Fn)
 sc:Scope
 N:List Str
 bs:List Str
noncomputable def idx (x:Str):List Str→Option Nat
 | []=>none
 | y::r=>if x=y then some 0 else(idx x r).map (· +1)
noncomputable def loc (C:Ctx) (x:Str):Option Nat:=match C.sc.names.lookup x with
 | some .local=>idx x C.N
 | some .cell=>idx x C.N
 | some .free=>idx x C.N
 | _=>none
noncomputable def capLoc (C:Ctx) (x:Str):Option Nat:=match C.sc.names.lookup x with
 | some .cell=>idx x C.N
 | some .free=>idx x C.N
 | _=>none
noncomputable def glo (C:Ctx) (x:Str):Option Gl:=match C.sc.names.lookup x with
 | some .globalImplicit=>C.tab.lookup x
 | _=>none
noncomputable def isP:Gl→Option (D→Option Bool)
 | .py .int=>some fun d=>match d with | .int _=>some true | .bl _=>some true | .exc _=>none | .fn _=>none | _=>some false
 | .py .bool=>some fun d=>match d with | .bl _=>some true | .exc _=>none | .fn _=>none | _=>some false
 | .py .tuple=>some fun d=>match d with | .tup _=>some true | .exc _=>none | .fn _=>none | _=>some false
 | .py .list=>some fun d=>match d with | .lst _=>some true | .exc _=>none | .fn _=>none | _=>some false
 | .py .str=>some fun d=>match d with | .str _=>some true | .exc _=>none | .fn _=>none | _=>some false
 | .exc c=>some fun d=>match d with | .exc e=>some (hit c e) | _=>none
 | .verr=>some fun d=>match d with | .exc e=>some (hit 100 e) | _=>none
 | _=>none
noncomputable def kD:Const→Option D
 | .int i=>some (.int i)
 | .bool b=>some (.bl b)
 | .none=>some .non
 | .str x=>some (.str x)
 | _=>none
noncomputable def mapO {α β:Type} (f:α→Option β):List α→Option (List β)
 | []=>some []
 | x::r=>match f x with
  | none=>none
  | some y=>(mapO f r).map (y:: ·)
noncomputable def tgNames:Expr→Option (List Str×Nat)
 | .Name x _=>some ([x],0)
 | .Tuple es _ _=>(mapO (fun(e:Expr)=>match e with | .Name x _=>some x | _=>none) es).bind fun xs=>if 2≤xs.length then some (xs,xs.length) else none
 | _=>none
noncomputable def frees (sc:Scope):List Str:=(sc.names.filter fun p=>p.2== .free).map (·.1)
noncomputable def cels (sc:Scope):List Str:=(sc.names.filter fun p=>p.2== .cell).map (·.1)
noncomputable def compOk (sc:Scope) (xs:List Str):Bool:=
 sc.kind== .function&&((cels sc).isEmpty||(decide (cels sc=xs)&&decide (xs.length=1)))&&xs.all (fun x=>sc.names.lookup x==some (if(cels sc).isEmpty then .local else .cell))&&
  sc.names.all (fun p=>p.2 != .local||sc.names.lookup p.1==some .local)&&decide (xs++frees sc).Nodup&&(xs++frees sc).all (fun x=>x != "__debug__"&&x != "__classdict__")&&(frees sc).all (fun x=>sc.names.lookup x==some .free)
noncomputable def recvOk:Expr→Bool
 | .Name _ _=>true
 | .Subscript _ _ _=>true
 | .List _ _=>true
 | _=>false
noncomputable def one:List Expr→Option Expr
 | [a]=>some a
 | _=>none
noncomputable def two:List Expr→Option (Expr×Expr)
 | [a,b]=>some (a,b)
 | _=>none
noncomputable def vName:Expr→Option (Str×Pos)
 | .Name x p=>some (x,p)
 | _=>none
noncomputable def vTup:Expr→Option (List Expr×Nat×Pos)
 | .Tuple es k p=>some (es,k,p)
 | _=>none
noncomputable def vSlice:Expr→Option (Option Expr×Option Expr)
 | .Slice lo hi st _=>(match st with | none=>some (lo,hi) | some _=>none)
 | _=>none
noncomputable def isOne:Expr→Bool
 | .Constant c _ _=>(match c with | .int i=>i==1 | _=>false)
 | _=>false
noncomputable def isM1:Expr→Bool
 | .UnaryOp op e _=>(match op with | .USub=>isOne e | _=>false)
 | _=>false
noncomputable def isNmK:Expr→Bool
 | .Name _ _=>true
 | _=>false
noncomputable def isSubK:Expr→Bool
 | .Subscript _ _ _=>true
 | _=>false
noncomputable def isNoneK:Expr→Bool
 | .Constant c _ _=>(match c with | .none=>true | _=>false)
 | _=>false
noncomputable def isTwo:Expr→Bool
 | .Constant c _ _=>(match c with | .int i=>i==2 | _=>false)
 | _=>false
noncomputable def vStep:Expr→Option Expr
 | .Slice lo hi st _=>if hi.isNone&&(match st with | none=>false | some e=>isTwo e) then lo else none
 | _=>none
noncomputable def vRev:Expr→Bool
 | .Slice lo hi st _=>lo.isNone&&hi.isNone&&(match st with | none=>false | some e=>isM1 e)
 | _=>false
noncomputable def vTup2 (e:Expr):Option (Str×Str):=(vTup e).bind fun(es,_)=>(two es).bind fun(u,v)=>(vName u).bind fun(x,_)=>(vName v).map fun(y,_)=>(x,y)
noncomputable def isStr:Expr→Bool
 | .Constant c _ _=>(match c with | .str _=>true | _=>false)
 | _=>false
noncomputable def rngOf (dE:Expr→Option F) (C:Ctx) (a:Expr):Option F:=match a with
 | .Call f as kws _=>if kws.isEmpty then(vName f).bind fun(x,_)=>(one as).bind fun b=>(match loc C x,glo C x with
  | none,some (.py .range)=>dE b
  | _,_=>none) else none
 | _=>none
noncomputable def vDflt (ks:List Keyword):Option Int:=match ks with
 | [⟨some x,v,_⟩]=>if x="default" then(match v with | .Constant c _ _=>(match c with | .int i=>some i | _=>none) | _=>none) else none
 | _=>none
noncomputable def denKw (dL:Expr→Option F) (C:Ctx) (f:Expr) (as:List Expr) (ks:List Keyword):Option F:=(vName f).bind fun(x,_)=>(one as).bind fun a=>(vDflt ks).bind fun i=>(match loc C x,glo C x with
 | none,some (.py .max)=>(dL a).map fun g=>rCall (dMaxD i) [g]
 | _,_=>none)
noncomputable def denPy (dE dL:Expr→Option F) (C:Ctx) (p:Py) (as:List Expr):Option F:=match p with
 | .len=>(one as).bind fun a=>(dL a).map fun f=>rCall dLen [f]
 | .int=>(one as).bind fun a=>(dL a).map fun f=>rCall dInt [f]
 | .tuple=>(one as).bind fun a=>(dL a).map fun f=>rCall dTuple [f]
 | .list=>(one as).bind fun a=>(dL a).map fun f=>rCall dList [f]
 | .sum=>(one as).bind fun a=>(dL a).map fun f=>rCall dSum [f]
 | .all=>(one as).bind fun a=>(dL a).map fun f=>rCall dAll [f]
 | .any=>(one as).bind fun a=>(dL a).map fun f=>rCall dAny [f]
 | .abs=>none
 | .sorted=>none
 | .min=>none
 | .max=>(match as with
  | [a]=>(dL a).map fun f=>rCall dMax1 [f]
  | as=>(two as).bind fun(a,b)=>(dE a).bind fun f=>(dE b).map fun h=>rCall dMax [f,h])
 | .isin=>(two as).bind fun(a,b)=>(match vTup2 b with
  | some (t,t')=>(dE a).bind fun f=>(glo C t).bind fun g=>(isP g).bind fun P=>(glo C t').bind fun g'=>(isP g').map fun P'=>rIs (orP P P') f
  | none=>(vName b).bind fun(t,_)=>(dE a).bind fun f=>(glo C t).bind fun g=>(isP g).map fun P=>rIs P f)
 | _=>none
noncomputable def denIt (dE:Expr→Option F) (C:Ctx) (tt:Bool) (x:Str) (as:List Expr):Option F:=match glo C x,as with
 | some (.py .range),[a]=>(dE a).map iRange
 | some (.py .enum),[a]=>if tt then(dE a).map iEnum else none
 | _,_=>none
noncomputable def bsN (C:Ctx) (e:Expr):Bool:=match e with | .Name x _=>C.bs.contains x | _=>false
noncomputable def dcName (x:Str):Str:=x++"{}"
noncomputable def dnN (C:Ctx) (e:Expr):Option Nat:=(vName e).bind fun(x,_)=>if C.bs.contains (dcName x) then loc C x else none
noncomputable def isIn:CmpOp→Bool
 | .In=>true
 | .NotIn=>true
 | _=>false
noncomputable def inN (C:Ctx) (op:CmpOp) (e:Expr):Option Nat:=if isIn op&&bsN C e then(vName e).bind fun(x,_)=>loc C x else none
mutual
noncomputable def denE:Nat→Ctx→Expr→Option F
 | 0,_,_=>none
 | n+1,C,e=>match e with
  | .Name x _=>(match loc C x with
   | some i=>some (rVar i)
   | none=>match glo C x with
    | some (.val d)=>some (rK d)
    | some (.fn k _ _)=>some (rK (.fn k))
    | _=>none)
  | .Constant c _ _=>(kD c).map rK
  | .BinOp a op b _=>(denE n C a).bind fun f=>(denE n C b).map fun g=>rBin op f g
  | .UnaryOp op a _=>(denE n C a).bind fun f=>(match op with | .Not=>some (rNot f) | .USub=>some (rNeg f) | _=>none)
  | .BoolOp op es p=>(match es with
   | [a,b]=>(denE n C a).bind fun f=>(denE n C b).map fun g=>(match op with | .And=>rAnd f g | .Or=>rOr f g)
   | a::b::c::r=>(denE n C a).bind fun f=>(denE n C (.BoolOp op (b::c::r) p)).map fun g=>(match op with | .And=>rAnd f g | .Or=>rOr f g)
   | _=>none)
  | .Compare a ops cs _=>(match ops with
   | [op]=>(one cs).bind fun b=>(if bsN C a then denL n C a else denE n C a).bind fun f=>(match inN C op b with
    | some i=>some (rInS op f i)
    | none=>(if bsN C b then denL n C b else denE n C b).map fun g=>rCmp op f g)
   | [op,op']=>(two cs).bind fun(b,c)=>(denE n C a).bind fun f=>(denE n C b).bind fun g=>(denE n C c).map fun h=>rChain op op' f g h
   | _=>none)
  | .IfExp c a b _=>(denE n C c).bind fun h=>(denE n C a).bind fun f=>(denE n C b).map fun g=>rIf h f g
  | .Tuple es _ _=>if es.length≤1000 then(mapO (denE n C) es).map rTup else none
  | .List es _=>if es.length≤1000 then(mapO (denE n C) es).map rLst else none
  | .Subscript a b _=>(match dnN C a with
   | some i=>(denE n C b).map fun g=>rGet i g
   | none=>(denL n C a).bind fun f=>(match vSlice b with
   | some (lo,hi)=>(match lo with
    | none=>some none
    | some l=>(denE n C l).map some).bind fun l=>(match hi with
    | none=>some none
    | some h=>(denE n C h).map some).map fun h=>rCut f l h
   | none=>(denE n C b).map fun g=>rIx f g))
  | .ListComp elt gens sc _=>(match gens with
   | [⟨tg,it,ifs,as⟩]=>if as=0 then(tgNames tg).bind fun(xs,k)=>(denI n C (k != 0) it).bind fun fi=>if compOk sc xs then
     (mapO (fun x=>capLoc C x) (frees sc)).bind fun cs=>(match ifs with
     | []=>some none
     | [c]=>(denE n { C with sc:=sc,N:=xs++frees sc } c).map some
     | _=>none).bind fun c=>(denE n { C with sc:=sc,N:=xs++frees sc } elt).map fun e=>rComp k cs fi c e
    else none else none
   | _=>none)
  | .Call f as kws cp=>if kws.isEmpty then(match f with
   | .Name x _=>(match loc C x with
    | some i=>if as.isEmpty then none else(mapO (denE n C) as).map fun fs=>rCallV C.fns (rVar i) fs
    | none=>(match glo C x with
     | some (.fn _ k f)=>if as.isEmpty then none else(mapO (denE n C) as).bind fun fs=>if fs.length=k then some (rCall f fs) else none
     | some (.py p)=>denPy (denE n C) (denL n C) C p as
     | _=>none))
   | .Subscript a b sp=>if as.isEmpty then none else(denE n C (.Subscript a b sp)).bind fun g=>(mapO (denE n C) as).map fun fs=>rCallV C.fns g fs
   | .Attribute o m ap=>if as.isEmpty then(if m="bit_length"∧recvOk o=true∧(ap.endLine==cp.line)=true then(denE n C o).map fun f=>rCall dBits [f] else none) else(one as).bind fun a=>if recvOk o&&ap.endLine==cp.line then(denL n C o).bind fun f=>(denE n C a).bind fun g=>
     if m="count" then some (rMeth dCount f g) else if m="index" then some (rMeth dIndex f g) else none else none
   | _=>none) else denKw (denL n C) C f as kws
  | _=>none
noncomputable def denL:Nat→Ctx→Expr→Option F
 | 0,_,_=>none
 | n+1,C,e=>match e with
  | .Name x p=>(match loc C x with
   | some i=>some (rLook i)
   | none=>denE n C (.Name x p))
  | e=>denE n C e
noncomputable def denI:Nat→Ctx→Bool→Expr→Option F
 | 0,_,_,_=>none
 | n+1,C,tt,e=>match e with
  | .Call f as kws q=>(match f with
   | .Name x p=>(match loc C x,glo C x,kws with
    | none,some (.py .range),[]=>denIt (denE n C) C tt x as
    | none,some (.py .zip),[]=>denIt (denE n C) C tt x as
    | none,some (.py .enum),[]=>denIt (denE n C) C tt x as
    | _,_,_=>denE n C (.Call (.Name x p) as kws q))
   | f=>denE n C (.Call f as kws q))
  | e=>(match dnN C e with | some i=>some (iLook i) | none=>denL n C e)
end
noncomputable def gv:Nat→Expr→List Str
 | 0,_=>[]
 | n+1,e=>match e with
  | .Name x _=>[x]
  | .BinOp a _ b _=>gv n a++gv n b
  | .UnaryOp _ a _=>gv n a
  | .BoolOp _ as _=>as.flatMap (gv n)
  | .Compare a [_] [b] _=>(if isNmK a then [] else gv n a)++(if isNmK b then [] else gv n b)
  | .Compare a _ bs _=>gv n a++bs.flatMap (gv n)
  | .IfExp a b c _=>gv n a++gv n b++gv n c
  | .Tuple es _ _=>es.flatMap (gv n)
  | .List es _=>es.flatMap (gv n)
  | .Slice lo hi _ _=>(lo.map (gv n)).getD []++(hi.map (gv n)).getD []
  | .Subscript (.Name _ _) b _=>gv n b
  | .Subscript a b _=>gv n a++gv n b
  | .ListComp elt [⟨_, .Name _ _,ifs,_⟩] _ _=>ifs.flatMap (gv n)++gv n elt
  | .ListComp elt [⟨_,it,ifs,_⟩] _ _=>gv n it++ifs.flatMap (gv n)++gv n elt
  | .Call (.Name x _) as _ _=>if x="len"∨x="tuple"∨x="list"∨x="sum"∨x="sorted"∨x="all"∨x="any" then
    as.flatMap fun a=>match a with | .Name _ _=>[] | a=>gv n a else x::as.flatMap (gv n)
  | .Call (.Attribute (.Name _ _) _ _) as _ _=>as.flatMap (gv n)
  | .Call (.Attribute o _ _) as _ _=>gv n o++as.flatMap (gv n)
  | .Call f as _ _=>gv n f++as.flatMap (gv n)
  | _=>[]
noncomputable def frzOf (C:Ctx) (e:Expr):List Nat:=match C.bs with
 | []=>[]
 | _=>((gv 50 e).filter fun x=>C.bs.contains x).filterMap fun x=>loc C x
noncomputable def withFrz (is:List Nat) (s:FS):FS:=match is with
 | []=>s
 | is=>sFrz is s
noncomputable def blds:Nat→List Stmt→List Str
 | 0,_=>[]
 | n+1,ss=>ss.flatMap fun s=>match s with
  | .Assign [.Subscript (.Name x _) _ _] _ _=>[x]
  | .Assign [.Name x _] (.Dict [] [] _) _=>[dcName x]
  | .Assign [.Tuple [_, .Name x _] _ _] (.Tuple [_, .Dict [] [] _] _ _) _=>[dcName x]
  | .AugAssign (.Subscript (.Name x _) _ _) _ _ _=>[x]
  | .Assign [.Tuple [.Subscript (.Name x _) _ _,_] _ _] _ _=>[x]
  | .Expr (.Call (.Attribute (.Name x _) m _) _ _ _) _=>if m="append"∨m="extend"∨m="remove" then [x] else []
  | .If _ a b _=>blds n a++blds n b
  | .For _ _ b _ _=>blds n b
  | .While _ b _ _=>blds n b
  | _=>[]
noncomputable def callish:Expr→Bool
 | .Call _ _ _ _=>true
 | .Name _ _=>true
 | .Subscript _ _ _=>true
 | .ListComp _ _ _ _=>true
 | _=>false
noncomputable def parOk (C:Ctx) (x y:Str) (px py:Pos) (a b:Expr):Bool:=
 C.sc.names.lookup x==some .local&&C.sc.names.lookup y==some .local&&x != y&&px.line==py.line&& !([a,b].all (foldedForSure 8))&& !([a,b].all (constantsAlone 8))&& !C.bs.contains x&& !C.bs.contains y
noncomputable def parCell (C:Ctx) (x y:Str):Bool:=(C.sc.names.lookup x==some .cell||C.sc.names.lookup y==some .cell)&& !C.bs.contains x&& !C.bs.contains y
noncomputable def addB:Operator→Bool
 | .Add=>true
 | _=>false
noncomputable def addsub:Operator→Bool
 | .Add=>true
 | .Sub=>true
 | _=>false
noncomputable def isD0:Expr→Bool
 | .Dict ks vs _=>ks.isEmpty&&vs.isEmpty
 | _=>false
noncomputable def denF (C:Ctx) (tt:Bool) (it:Expr):Option F:=match it with
 | .Name x p=>(match dnN C (.Name x p) with | some i=>some (iSd i) | none=>denE 50 C (.Name x p))
 | it=>denI 50 C tt it
structure Par where
 x:Str
 px:Pos
 y:Str
 py:Pos
 a:Expr
 b:Expr
noncomputable def par2 (es:List Expr) (e:Expr):Option Par:=(two es).bind fun(u,v)=>(vName u).bind fun(x,px)=>(vName v).bind fun(y,py)=>(vTup e).bind fun(vs,_)=>(two vs).map fun(a,b)=>⟨x,px,y,py,a,b⟩
structure Par3 where
 x:Str
 px:Pos
 y:Str
 py:Pos
 z:Str
 pz:Pos
 a:Expr
 b:Expr
 c:Expr
noncomputable def three:List Expr→Option (Expr×Expr×Expr)
 | [a,b,c]=>some (a,b,c)
 | _=>none
noncomputable def par3 (es:List Expr) (e:Expr):Option Par3:=(three es).bind fun(u,v,w)=>(vName u).bind fun(x,px)=>(vName v).bind fun(y,py)=>(vName w).bind fun(z,pz)=>(vTup e).bind fun(vs,_)=>(three vs).map fun(a,b,c)=>⟨x,px,y,py,z,pz,a,b,c⟩
noncomputable def par3Ok (C:Ctx) (q:Par3):Bool:=
 C.sc.names.lookup q.x==some .local&&C.sc.names.lookup q.y==some .local&&C.sc.names.lookup q.z==some .local&&q.x != q.y&&q.x != q.z&&q.y != q.z&&q.px.line==q.py.line&&q.px.line==q.pz.line&& !([q.a,q.b,q.c].all (foldedForSure 8))&& !([q.a,q.b,q.c].all (constantsAlone 8))&& !C.bs.contains q.x&& !C.bs.contains q.y&& !C.bs.contains q.z
noncomputable def vSub:Expr→Option (Str×Expr)
 | .Subscript o k _=>(vName o).map fun(x,_)=>(x,k)
 | _=>none
noncomputable def sub2 (es:List Expr) (e:Expr):Option (Str×Expr×Expr):=(two es).bind fun(u,v)=>(vSub u).bind fun(x,k)=>(vSub v).bind fun(y,l)=>(vTup e).bind fun(vs,_)=>(two vs).bind fun _=>if x=y then some (x,k,l) else none
noncomputable def parD (es:List Expr) (e:Expr):Option (Str×Str×Expr):=(two es).bind fun(u,v)=>(vName u).bind fun(x,_)=>(vName v).bind fun(y,_)=>(vTup e).bind fun(vs,_)=>(two vs).bind fun(a,b)=>if isD0 b then some (x,y,a) else none
noncomputable def oneS:List Stmt→Option Stmt
 | [s]=>some s
 | _=>none
noncomputable def vAsg:Stmt→Option (Str×Str)
 | .Assign ts e _=>(one ts).bind fun t=>(vName t).bind fun(x,_)=>(vName e).map fun(y,_)=>(x,y)
 | _=>none
noncomputable def hdOf (C:Ctx) (hs:List ExceptHandler):Option (Nat×Nat):=match hs with
 | [.ExceptHandler ty nm b _]=>ty.bind fun te=>nm.bind fun e=>(vName te).bind fun(cx,_)=>(oneS b).bind fun s=>(vAsg s).bind fun(x,e')=>(match loc C cx,glo C cx with
  | none,some (.exc c)=>if c=0∧e=e' then(loc C e).bind fun i=>(loc C x).bind fun j=>if C.sc.names.lookup e==some .local&&i != j&&C.bs.isEmpty then some (i,j) else none else none
  | _,_=>none)
 | _=>none
noncomputable def vExt (s:Stmt):Option (Str×Expr):=match s with
 | .Expr e _=>(match e with
  | .Call f as kws cp=>if kws.isEmpty then(match f with
   | .Attribute o m ap=>(vName o).bind fun(z,_)=>(one as).bind fun e=>if m="extend"∧(ap.endLine==cp.line)=true then some (z,e) else none
   | _=>none) else none
  | _=>none)
 | _=>none
noncomputable def forxOf (C:Ctx) (tg it:Expr) (b:List Stmt):Option (Nat×Nat×Nat×Expr):=(vName tg).bind fun(x,_)=>(vName it).bind fun(y,_)=>(oneS b).bind fun s=>(vExt s).bind fun(z,e)=>(loc C x).bind fun t=>(loc C y).bind fun i=>(loc C z).bind fun j=>
 if C.bs.contains y&&C.bs.contains z&& !C.bs.contains x&&t != i&&i != j&&(frzOf C e).isEmpty then some (t,i,j,e) else none
mutual
noncomputable def denS:Nat→Bool→Ctx→Stmt→Option FS
 | 0,_,_,_=>none
 | n+1,t,C,s=>match s with
  | .Pass _=>some sPass
  | .Break _=>some sBrk
  | .Continue _=>some sCont
  | .Return v _=>(match v with
   | none=>some sRetN
   | some e=>(match vName e with
    | some (x,_)=>(match loc C x with
     | some i=>if C.bs.contains x then some (sRet (rGive i)) else some (sRet (rVar i))
     | none=>(denE 50 C e).map sRet)
    | none=>(denE 50 C e).map fun f=>withFrz (frzOf C e) (sRet f)))
  | .Assign ts e _=>(one ts).bind fun tg=>(match tg with
   | .Name x _=>(loc C x).bind fun i=>if isD0 e&&C.bs.contains x then some (sDNew i) else(denE 50 C e).map fun f=>withFrz (frzOf C e) (if C.bs.contains x then sOwn i f else sSet i f)
   | .Tuple es a b=>(match par2 es e with
    | some ⟨x,px,y,py,a,b⟩=>if parOk C x y px py a b then(loc C x).bind fun i=>(loc C y).bind fun j=>(denE 50 C a).bind fun f=>(denE 50 C b).map fun g=>withFrz (frzOf C e) (sSetN [i,j] (rTup [f,g])) else if parCell C x y then(loc C x).bind fun i=>(loc C y).bind fun j=>(denE 50 C e).map fun f=>withFrz (frzOf C e) (sSetN [i,j] f) else none
    | none=>(if callish e then some () else none).bind fun _=>(tgNames (.Tuple es a b)).bind fun(xs,_)=>(mapO (fun x=>loc C x) xs).bind fun is=>if xs.all (fun x=> !C.bs.contains x) then
     (denE 50 C e).map fun f=>withFrz (frzOf C e) (sSetN is f) else none)
   | .Subscript o k _=>(vName o).bind fun(x,_)=>(loc C x).bind fun i=>if C.bs.contains x then(denE 50 C e).bind fun f=>(denE 50 C k).map fun g=>withFrz (frzOf C e++frzOf C k) (sPut i g f) else none
   | _=>none)
  | .AugAssign tg op e _=>(match tg with | .Subscript o k _=>(vName o).bind fun(x,_)=>(loc C x).bind fun i=>if C.bs.contains x&&addB op then(denE 50 C e).bind fun f=>(denE 50 C k).map fun g=>withFrz (frzOf C e++frzOf C k) (sAugS i g f) else none | tg=>(vName tg).bind fun(x,_)=>(if addsub op then some () else none).bind fun _=>(loc C x).bind fun i=>(denE 50 C e).map fun f=>withFrz (frzOf C e) (sAug i op f))
  | .Expr e _=>(match e with
   | .Call f as kws cp=>if kws.isEmpty then(match f with
    | .Attribute o m ap=>(vName o).bind fun(x,_)=>(one as).bind fun e=>(loc C x).bind fun i=>if C.bs.contains x&&ap.endLine==cp.line then(denE 50 C e).bind fun f=>
      if m="append" then some (withFrz (frzOf C e) (sApp i f)) else if m="extend" then some (withFrz (frzOf C e) (sExt i f)) else if m="remove" then some (withFrz (frzOf C e) (sRem i f)) else none else none
    | .Name x p=>(denE 50 C (.Call (.Name x p) as [] cp)).map fun f=>withFrz (frzOf C (.Call (.Name x p) as [] cp)) (sDrop f)
    | _=>none) else none
   | _=>none)
  | .If c a b _=>(denE 50 C c).bind fun f=>(denSs n t C a).bind fun g=>(denSs n t C b).map fun h=>withFrz (frzOf C c) (sIf f g h)
  | .For tg it b els _=>if t|| !els.isEmpty then none else(match forxOf C tg it b with
   | some (ti,i,j,e)=>(denE 50 C e).map fun f=>sForX ti i (sExt j f)
   | none=>(tgNames tg).bind fun(xs,k)=>(denF C (k != 0) it).bind fun f=>(mapO (fun x=>loc C x) xs).bind fun is=>if xs.all (fun x=> !C.bs.contains x) then
    (denSs n t C b).map fun g=>withFrz (frzOf C it) (sFor is (k==0) f g) else none)
  | .While c b els _=>if t|| !els.isEmpty then none else(denE 50 C c).bind fun f=>(denSs n t C b).map fun g=>withFrz (frzOf C c) (sWhile f g)
  | .Raise x c _=>if t||c.isSome then none else x.bind fun e=>(match e with
   | .Call f as kws _=>if kws.isEmpty then(vName f).bind fun(x,_)=>(one as).bind fun a=>if isStr a then(match loc C x,glo C x with
    | none,some (.exc c)=>some (sRaise c)
    | _,_=>none) else none else none
   | _=>none)
  | _=>none
noncomputable def denSs:Nat→Bool→Ctx→List Stmt→Option FS
 | 0,_,_,_=>none
 | n+1,t,C,ss=>match ss with
  | []=>some sPass
  | [a]=>some ((denS n t C a).getD sBad)
  | a::r=>(denSs n t C r).map fun g=>sSeq ((denS n t C a).getD sBad) g
end
noncomputable def parsOf (a:Arguments):Option (List Str):=if a.posonlyargs.isEmpty&&a.vararg.isNone&&a.kwonlyargs.isEmpty&&a.kwarg.isNone&&a.defaults.isEmpty then some (a.args.map (·.arg)) else none
noncomputable def namesOf (sc:Scope):List Str:=(sc.names.filter fun p=>p.2== .local||p.2== .cell).map (·.1)
noncomputable def scopeOk (N P:List Str) (sc:Scope):Bool:=
 sc.kind== .function&& !sc.isCoroutine&& !sc.isGenerator&&decide N.Nodup&&decide (N.take P.length=P)&&
  P.all (fun x=>sc.names.lookup x==some .local||sc.names.lookup x==some .cell)&&sc.names.all (fun p=>p.2 != .free)&&N.all (fun x=>x != "__debug__"&&x != "__classdict__")
noncomputable def denFn (tab:List (Str×Gl)) (fns:List (Nat×Fn)) (s:Stmt):Option (Nat×Fn):=match s with
 | .FunctionDef _ as b _ _ _ sc _ _ _=>(parsOf as).bind fun P=>if scopeOk (namesOf sc) P sc then
   (denSs 100 false ⟨tab,fns,sc,namesOf sc,blds 50 b⟩ b).map fun g=>(P.length,fnOf (namesOf sc).length g) else none
 | _=>none
noncomputable def isPD (g:Gl):D→Option Bool:=(isP g).getD fun _=>none
noncomputable def vL:D→Option Bool:=isPD (.py .int)
noncomputable def q0:D→Option Bool:=isPD (.py .bool)
noncomputable def bQ:D→Option Bool:=isPD (.py .tuple)
noncomputable def gQ:D→Option Bool:=isPD (.py .list)
noncomputable def isExc:Nat→D→Option Bool
 | 100=>isPD .verr
 | c=>isPD (.exc c)
mutual
noncomputable def toPy:D→PyData
 | .non=> .none
 | .bl b=> .bool b
 | .int i=> .int i
 | .str x=> .str x
 | .tup xs=> .tuple (toPys xs)
 | .lst xs=> .list (toPys xs)
 | .exc _=> .none
 | .fn _=> .none
noncomputable def toPys:List D→List PyData
 | []=>[]
 | x::xs=>toPy x::toPys xs
end
mutual
theorem cM: ∀ {d:D},plain d=true→(toPy d).canLay0=true
 | .non,_=>by simp [toPy,PyData.canLay0]
 | .bl _,_=>by simp [toPy,PyData.canLay0]
 | .int _,_=>by simp [toPy,PyData.canLay0]
 | .str x,h=>by
  unfold plain at h
  simp only [toPy,PyData.canLay0]
  exact h
 | .tup xs,h=>by
  simp only [toPy,PyData.canLay0]
  exact gR (by simpa [plain] using h)
 | .lst xs,h=>by
  simp only [toPy,PyData.canLay0]
  exact gR (by simpa [plain] using h)
 | .exc _,h=>by simp [plain] at h
 | .fn _,h=>by simp [plain] at h
theorem gR: ∀ {ds:List D},plains ds=true→PyData.canLayAll0 (toPys ds)=true
 | [],_=>by simp [toPys,PyData.canLayAll0]
 | d::ds,h=>by
  have h':plain d=true∧plains ds=true:=by simpa [plains] using h
  simp only [toPys,PyData.canLayAll0,cM h'.1,gR h'.2,Bool.and_self]
end
mutual
theorem cN: ∀ (d:D),(toPy d).depth=dep d
 | .non=>by simp [toPy,PyData.depth,dep]
 | .bl _=>by simp [toPy,PyData.depth,dep]
 | .int _=>by simp [toPy,PyData.depth,dep]
 | .str x=>by simp [toPy,PyData.depth,dep]
 | .tup xs=>by simp [toPy,PyData.depth,dep,gS xs]
 | .lst xs=>by simp [toPy,PyData.depth,dep,gS xs]
 | .exc _=>by simp [toPy,PyData.depth,dep]
 | .fn _=>by simp [toPy,PyData.depth,dep]
theorem gS: ∀ (ds:List D),PyData.depthAll (toPys ds)=deps ds
 | []=>by simp [toPys,PyData.depthAll,deps]
 | d::ds=>by simp [toPys,PyData.depthAll,deps,cN d,gS ds]
end
theorem pV (b:Bool):b2i b=if b then 1 else 0:=rfl
mutual
theorem bZ: ∀ (x y:D),plain x=true→plain y=true→PyData.eqv (toPy x) (toPy y)=deq x y
 | .non,y,_,h=>by cases y<;>simp [plain] at h<;>simp [toPy,PyData.eqv,deq]
 | .bl a,y,_,h=>by cases y<;>simp [plain] at h<;>simp [toPy,PyData.eqv,deq,pV]
 | .int a,y,_,h=>by cases y<;>simp [plain] at h<;>simp [toPy,PyData.eqv,deq,pV]
 | .str a,y,_,h=>by cases y<;>simp [plain] at h<;>simp [toPy,PyData.eqv,deq]
 | .tup xs,y,g,h=>by
  cases y with
  | tup ys=>simpa [toPy,PyData.eqv,deq] using eL xs ys (by simpa [plain] using g) (by simpa [plain] using h)
  | _=>simp [plain] at h<;>simp [toPy,PyData.eqv,deq]
 | .lst xs,y,g,h=>by
  cases y with
  | lst ys=>simpa [toPy,PyData.eqv,deq] using eL xs ys (by simpa [plain] using g) (by simpa [plain] using h)
  | _=>simp [plain] at h<;>simp [toPy,PyData.eqv,deq]
 | .exc _,_,g,_=>by simp [plain] at g
 | .fn _,_,g,_=>by simp [plain] at g
theorem eL: ∀ (xs ys:List D),plains xs=true→plains ys=true→PyData.eqvAll (toPys xs) (toPys ys)=deqs xs ys
 | [],[],_,_=>by simp [toPys,PyData.eqvAll,deqs]
 | [],_::_,_,_=>by simp [toPys,PyData.eqvAll,deqs]
 | _::_,[],_,_=>by simp [toPys,PyData.eqvAll,deqs]
 | x::xs,y::ys,g,h=>by
  have g':plain x=true∧plains xs=true:=by simpa [plains] using g
  have h':plain y=true∧plains ys=true:=by simpa [plains] using h
  simp only [toPys,PyData.eqvAll,deqs,bZ x y g'.1 h'.1,eL xs ys g'.2 h'.2]
end
abbrev St:=L2.St
structure Ad where
 cls:Nat→Addr
 fnA:Nat→Addr
 nb:Nat
def ExcAt (h:Heap) (x C:Addr):Prop:= ∃ o vs,h.get? x=some o∧o.cls= .ref C∧o.data= .fields vs
noncomputable def excO (C a:Addr):HO:= .ext fun h=>ExcAt h a C
section
variable (K:PySem.W.Frag) (ad:Ad)
mutual
noncomputable def Rep (G:Hp):D→V→Prop
 | .non,v=>v= .non
 | .bl b,v=>v= .bl b
 | .int i,v=>v= .int i
 | .str x,v=>v= .str x
 | .tup ds,v=> ∃ a vs,v= .ref a∧SqT K G a vs∧Reps G ds vs
 | .lst ds,v=> ∃ a vs,v= .ref a∧SqL K G a vs∧Reps G ds vs
 | .exc c,v=> ∃ a,v= .ref a∧G a=some (excO (ad.cls c) a)
 | .fn k,v=>v= .ref (ad.fnA k)
noncomputable def Reps (G:Hp):List D→List V→Prop
 | [],vs=>vs=[]
 | d::ds,vs=> ∃ v r,vs=v::r∧Rep G d v∧Reps G ds r
end
end
section
variable {K:PySem.W.Frag} {ad:Ad} {G G' H H':Hp}
theorem _root_.L2.Same.seqT {K:PySem.W.Frag} {H H':Hp} {a:Addr} {xs:List V} (e:Same H H') (h:SqT K H a xs):SqT K H' a xs:=by
 rcases h with (h | ⟨o,h⟩) | h
 ·exact .inl (.inl (e _ _ h))
 ·exact .inl (.inr ⟨o,e _ _ h⟩)
 ·exact .inr h
mutual
theorem Rep.mono (e:Same G G'): ∀ {d:D} {v:V},Rep K ad G d v→Rep K ad G' d v
 | .non,_,h=>h
 | .bl _,_,h=>h
 | .int _,_,h=>h
 | .str _,_,h=>h
 | .tup ds,v,h=>by
  unfold Rep at h ⊢
  obtain⟨a,vs,h1,h2,h3⟩:=h
  exact⟨a,vs,h1,e.seqT h2,Reps.mono e h3⟩
 | .lst ds,v,h=>by
  unfold Rep at h ⊢
  obtain⟨a,vs,h1,h2,h3⟩:=h
  exact⟨a,vs,h1,e.seq h2,Reps.mono e h3⟩
 | .exc _,_,h=>by
  unfold Rep at h ⊢
  obtain⟨a,h1,h2⟩:=h
  exact⟨a,h1,e _ _ h2⟩
 | .fn _,_,h=>h
theorem Reps.mono (e:Same G G'): ∀ {ds:List D} {vs:List V},Reps K ad G ds vs→Reps K ad G' ds vs
 | [],_,h=>h
 | d::ds,vs,h=>by
  unfold Reps at h ⊢
  obtain⟨v,r,h1,h2,h3⟩:=h
  exact⟨v,r,h1,Rep.mono e h2,Reps.mono e h3⟩
end
theorem Reps.length: ∀ {ds:List D} {vs:List V},Reps K ad G ds vs→vs.length=ds.length
 | [],_,h=>by
  unfold Reps at h
  subst h
  rfl
 | d::ds,vs,h=>by
  unfold Reps at h
  obtain⟨v,r,rfl,_,h3⟩:=h
  simp [Reps.length h3]
theorem Reps.nil:Reps K ad G [] []:=by unfold Reps;rfl
theorem Reps.cons {d:D} {v:V} {ds:List D} {vs:List V} (h:Rep K ad G d v) (t:Reps K ad G ds vs):Reps K ad G (d::ds) (v::vs):=by
 unfold Reps
 exact⟨v,vs,rfl,h,t⟩
theorem Reps.get: ∀ {ds:List D} {vs:List V} {i:Nat} {d:D},Reps K ad G ds vs→ds[i]? =some d→ ∃ v,vs[i]? =some v∧Rep K ad G d v
 | [],_,_,_,_,e=>by simp at e
 | d::ds,vs,i,d',h,e=>by
  unfold Reps at h
  obtain⟨v,r,rfl,h2,h3⟩:=h
  cases i with
  | zero=>
   simp at e
   subst e
   exact⟨v,rfl,h2⟩
  | succ i=>
   obtain⟨w,a,b⟩:=Reps.get (i:=i) (d:=d') h3 (by simpa using e)
   exact⟨w,by simpa using a,b⟩
theorem Reps.append: ∀ {ds es:List D} {vs ws:List V},Reps K ad G ds vs→Reps K ad G es ws→Reps K ad G (ds++es) (vs++ws)
 | [],_,_,_,h,t=>by
  unfold Reps at h
  subst h
  exact t
 | d::ds,es,vs,ws,h,t=>by
  unfold Reps at h
  obtain⟨v,r,rfl,h2,h3⟩:=h
  exact Reps.cons h2 (Reps.append h3 t)
theorem Reps.drop: ∀ (n:Nat) {ds:List D} {vs:List V},Reps K ad G ds vs→Reps K ad G (ds.drop n) (vs.drop n)
 | 0,_,_,h=>h
 | n+1,[],_,h=>by
  unfold Reps at h
  subst h
  exact Reps.nil
 | n+1,d::ds,vs,h=>by
  unfold Reps at h
  obtain⟨v,r,rfl,h2,h3⟩:=h
  exact Reps.drop n h3
theorem Reps.take: ∀ (n:Nat) {ds:List D} {vs:List V},Reps K ad G ds vs→Reps K ad G (ds.take n) (vs.take n)
 | 0,_,_,_=>Reps.nil
 | n+1,[],_,h=>by
  unfold Reps at h
  subst h
  exact Reps.nil
 | n+1,d::ds,vs,h=>by
  unfold Reps at h
  obtain⟨v,r,rfl,h2,h3⟩:=h
  exact Reps.cons h2 (Reps.take n h3)
theorem Reps.set {d:D} {v:V} (q:Rep K ad G d v): ∀ (n:Nat) {ds:List D} {vs:List V},Reps K ad G ds vs→Reps K ad G (ds.set n d) (vs.set n v)
 | _,[],_,h=>by
  unfold Reps at h
  subst h
  exact Reps.nil
 | 0,_::ds,vs,h=>by
  unfold Reps at h
  obtain⟨w,r,rfl,h2,h3⟩:=h
  exact Reps.cons q h3
 | n+1,e::ds,vs,h=>by
  unfold Reps at h
  obtain⟨w,r,rfl,h2,h3⟩:=h
  exact Reps.cons h2 (Reps.set q n h3)
theorem Reps.rep {ds:List D} {vs:List V} (h:Reps K ad G ds vs): ∀ k:Nat,Reps K ad G (List.replicate k ds).flatten (List.replicate k vs).flatten
 | 0=>Reps.nil
 | k+1=>by
  simp only [List.replicate_succ,List.flatten_cons]
  exact Reps.append h (Reps.rep h k)
theorem Reps.map_int: ∀ {ns:List Int},Reps K ad G (ns.map D.int) (ns.map V.int)
 | []=>Reps.nil
 | _::_=>Reps.cons (by unfold Rep;rfl) Reps.map_int
structure Step (G H G' H':Hp):Prop where
 sg:Same G G'
 gh:Same G' H'
 sh:Same H H'
 nw: ∀ b,G b=none→G' b≠none→H b=none
theorem fM (e:Same H H') {b:Addr} (h:H' b=none):H b=none:=e.free h
theorem Step.refl (h:Same G H):Step G H G H:=⟨Same.refl _,h,Same.refl _,fun b h1 h2=>absurd h1 h2⟩
theorem Step.trans {G1 H1 G2 H2:Hp} (a:Step G H G1 H1) (b:Step G1 H1 G2 H2):Step G H G2 H2:=
 ⟨a.sg.trans b.sg,b.gh,a.sh.trans b.sh,fun x h1 h2=>by
  cases q:G1 x with
  | none=>exact a.sh.free (b.nw x q h2)
  | some o=>exact a.nw x h1 (by rw [q];exact fun z=>nomatch z)⟩
theorem Same.upd_new {p:Addr} {o:HO} (h:H p=none):Same H (upd H p o):=fun b u e=>by rw [aA (aH e h)];exact e
theorem Step.new {p:Addr} {o:HO} (h:Same G H) (n:H p=none):Step G H (upd G p o) (upd H p o):=by
 have gn:G p=none:=h.free n
 refine⟨Same.upd_new gn,fun b u e=> ?_,Same.upd_new n,fun b h1 h2=> ?_⟩
 ·by_cases q:b=p
  ·subst q
   rw [aE] at e ⊢
   exact e
  ·rw [aA q] at e ⊢
   exact h b u e
 ·by_cases q:b=p
  ·subst q
   exact n
  ·rw [aA q] at h2
   exact absurd h1 h2
theorem Step.own {p:Addr} {o:HO} (h:Same G H) (n:H p=none):Step G H G (upd H p o):=
 ⟨Same.refl _,h.trans (Same.upd_new n),Same.upd_new n,fun b h1 h2=>absurd h1 h2⟩
theorem Step.shareO {p:Addr} {o:HO} (s:Step G H G' H') (n:H p=none) (m:G' p=none) (e:H' p=some o):Step G H (upd G' p o) H':=by
 refine⟨s.sg.trans (Same.upd_new m),fun b u q=> ?_,s.sh,fun b h1 h2=> ?_⟩
 ·by_cases z:b=p
  ·subst z
   rw [aE] at q
   rw [e]
   exact q
  ·rw [aA z] at q
   exact s.gh b u q
 ·by_cases z:b=p
  ·subst z
   exact n
  ·rw [aA z] at h2
   exact s.nw b h1 h2
theorem Step.share {p:Addr} {vs:List V} (s:Step G H G' H') (n:H p=none) (m:G' p=none) (e:H' p=some (.lst vs)):Step G H (upd G' p (.lst vs)) H':=s.shareO n m e
mutual
noncomputable def hD:D→Int
 | .non=>0xFCA86420
 | .int i=>hashInt i
 | .tup xs=>reduceHash (Builtin.Tuple.tupleHashOf (hDs xs))
 | _=>0
noncomputable def hDs:List D→List Int
 | []=>[]
 | x::xs=>hD x::hDs xs
end
def DcAt (h:Heap) (a:Addr) (es:Nat×List (Int×Addr×V)):Prop:=(a==sysModules)=false∧es.2.length≤200000∧ ∃ o ar xs,h.get? a=some o∧o.ExactDict∧o.data= .dict ar es.1∧ar.toList=xs.map (fun x:Int×Addr×Value=>(⟨x.1, .ref x.2.1,x.2.2⟩:DictEntry))∧
 Paired (fun(p:Int×Addr×V) (q:Int×Addr×Value)=>p.1=q.1∧p.2.1=q.2.1∧RelV p.2.2 q.2.2) es.2 xs
noncomputable def dcO (a:Addr) (es:Nat×List (Int×Addr×V)):HO:= .ext fun h=>DcAt h a es
noncomputable def DL (K:PySem.W.Frag) (ad:Ad) (G:Hp):List (D×D)→List (Int×Addr×V)→Prop:=Paired fun p q=>q.1=hD p.1∧Rep K ad G p.1 (.ref q.2.1)∧Rep K ad G p.2 q.2.2
def DR (K:PySem.W.Frag) (ad:Ad) (G:Hp) (kvs:List (D×D)) (es:Nat×List (Int×Addr×V)):Prop:=DL K ad G kvs es.2
def KOk (kvs:List (D×D)):Prop:=(∀ p∈kvs,keyOk p.1=true)∧kvs.Pairwise fun p q=>deq p.1 q.1=false
theorem DR.mono {K:PySem.W.Frag} {ad:Ad} {G G':Hp} {kvs:List (D×D)} {es:Nat×List (Int×Addr×V)} (h:DR K ad G kvs es) (e:Same G G'):DR K ad G' kvs es:=Paired.mapP h fun _ _ z=>⟨z.1,z.2.1.mono e,z.2.2.mono e⟩
noncomputable def SLi (K:PySem.W.Frag) (ad:Ad) (G H:Hp):Slot→Option V→Prop
 | .no,_=>True
 | .sh d,ov=> ∃ v,ov=some v∧Rep K ad G d v
 | .ow xs,ov=> ∃ a vs,ov=some (.ref a)∧G a=none∧H a=some (.lst vs)∧Reps K ad G xs vs
 | .dc kvs,ov=> ∃ a es,ov=some (.ref a)∧G a=none∧H a=some (dcO a es)∧DR K ad G kvs es∧KOk kvs
 | .sd kvs,ov=> ∃ a es,ov=some (.ref a)∧G a=some (dcO a es)∧H a=some (dcO a es)∧DR K ad G kvs es∧KOk kvs
structure SL (K:PySem.W.Frag) (ad:Ad) (G H:Hp) (ρ:Rho) (σ:St):Prop where
 len:ρ.length=σ.length
 at_: ∀ (i:Nat) (s:Slot),ρ[i]? =some s→ ∃ ov,σ[i]? =some ov∧SLi K ad G H s ov
theorem SLi.step (st:Step G H G' H'): ∀ {s:Slot} {ov:Option V},SLi K ad G H s ov→SLi K ad G' H' s ov
 | .no,_,_=>trivial
 | .sh d,_,⟨v,h1,h2⟩=>⟨v,h1,h2.mono st.sg⟩
 | .ow xs,_,⟨a,vs,h1,h2,h3,h4⟩=>by
  refine⟨a,vs,h1, ?_,st.sh _ _ h3,h4.mono st.sg⟩
  cases q:G' a with
  | none=>rfl
  | some o=>
   have:=st.nw a h2 (by rw [q];exact fun z=>nomatch z)
   rw [h3] at this
   cases this
 | .dc kvs,_,⟨a,es,h1,h2,h3,h4,h5⟩=>by
  refine⟨a,es,h1, ?_,st.sh _ _ h3,h4.mono st.sg,h5⟩
  cases q:G' a with
  | none=>rfl
  | some o=>
   have:=st.nw a h2 (by rw [q];exact fun z=>nomatch z)
   rw [h3] at this
   cases this
 | .sd kvs,_,⟨a,es,h1,h2,h3,h4,h5⟩=>⟨a,es,h1,st.sg _ _ h2,st.sh _ _ h3,h4.mono st.sg,h5⟩
theorem SL.step {ρ:Rho} {σ:St} (h:SL K ad G H ρ σ) (st:Step G H G' H'):SL K ad G' H' ρ σ:=
 ⟨h.len,fun i s e=>let ⟨ov,h1,h2⟩:=h.at_ i s e;⟨ov,h1,h2.step st⟩⟩
theorem SL.sh {ρ:Rho} {σ:St} {i:Nat} {d:D} (h:SL K ad G H ρ σ) (e:ρ[i]? =some (.sh d)): ∃ v,σ[i]? =some (some v)∧Rep K ad G d v:=by
 obtain⟨ov,h1,v,rfl,h3⟩:=h.at_ i _ e
 exact⟨v,h1,h3⟩
theorem SL.ow {ρ:Rho} {σ:St} {i:Nat} {xs:List D} (h:SL K ad G H ρ σ) (e:ρ[i]? =some (.ow xs)): ∃ a vs,σ[i]? =some (some (.ref a))∧G a=none∧H a=some (.lst vs)∧Reps K ad G xs vs:=by
 obtain⟨ov,h1,a,vs,rfl,h3⟩:=h.at_ i _ e
 exact⟨a,vs,h1,h3⟩
theorem SL.dc {ρ:Rho} {σ:St} {i:Nat} {kvs:List (D×D)} (h:SL K ad G H ρ σ) (e:ρ[i]? =some (.dc kvs)): ∃ a es,σ[i]? =some (some (.ref a))∧G a=none∧H a=some (dcO a es)∧DR K ad G kvs es∧KOk kvs:=by
 obtain⟨ov,h1,a,es,rfl,h3⟩:=h.at_ i _ e
 exact⟨a,es,h1,h3⟩
theorem SL.sd {ρ:Rho} {σ:St} {i:Nat} {kvs:List (D×D)} (h:SL K ad G H ρ σ) (e:ρ[i]? =some (.sd kvs)): ∃ a es,σ[i]? =some (some (.ref a))∧G a=some (dcO a es)∧H a=some (dcO a es)∧DR K ad G kvs es∧KOk kvs:=by
 obtain⟨ov,h1,a,es,rfl,h3⟩:=h.at_ i _ e
 exact⟨a,es,h1,h3⟩
def RK (K:PySem.W.Frag) (ad:Ad) (G H:Hp) (r:R) (Q:VK) (E:Nat→Hp→Prop):Prop:=match r with
 | .ok d=> ∀ v G' H',Step G H G' H'→Rep K ad G' d v→Q v H'
 | .ow xs=> ∀ p vs G' H',Step G H G' H'→H p=none→G' p=none→H' p=some (.lst vs)→Reps K ad G' xs vs→Q (.ref p) H'
 | .ex c=> ∀ G' H',Step G H G' H'→E c H'
 | .bad=>False
theorem RK.step {r:R} {Q:VK} {E:Nat→Hp→Prop} (h:RK K ad G H r Q E) (st:Step G H G' H'):RK K ad G' H' r Q E:=by
 cases r with
 | ok d=>exact fun v G2 H2 s2 q=>h v G2 H2 (st.trans s2) q
 | ow xs=>exact fun p vs G2 H2 s2 n m e q=>h p vs G2 H2 (st.trans s2) (st.sh.free n) m e q
 | ex c=>exact fun G2 H2 s2=>h G2 H2 (st.trans s2)
 | bad=>exact h
theorem RK.ok_now {d:D} {v:V} {Q:VK} {E:Nat→Hp→Prop} (h:RK K ad G H (.ok d) Q E) (e:Same G H) (q:Rep K ad G d v):Q v H:=h v G H (Step.refl e) q
theorem RK.ow_new {xs:List D} {vs:List V} {p:Addr} {Q:VK} {E:Nat→Hp→Prop} (h:RK K ad G H (.ow xs) Q E) (e:Same G H) (q:Reps K ad G xs vs) (n:H p=none):Q (.ref p) (upd H p (.lst vs)):=
 h p vs G (upd H p (.lst vs)) (Step.own e n) n (e.free n) aE q
theorem RK.tup_new {xs:List D} {vs:List V} {p:Addr} {Q:VK} {E:Nat→Hp→Prop} (h:RK K ad G H (.ok (.tup xs)) Q E) (e:Same G H) (q:Reps K ad G xs vs) (n:H p=none):Q (.ref p) (upd H p (.tup vs)):=by
 refine h (.ref p) (upd G p (.tup vs)) (upd H p (.tup vs)) (Step.new e n) ?_
 unfold Rep
 exact⟨p,vs,rfl,SqT.of aE,q.mono (Same.upd_new (e.free n))⟩
end
noncomputable def CXe (P:Program) (w:World):CXT:=fun outer H s E e s'=>
 ∃ (ea:Addr) (cls a0:Value) (H':Hp) (B:Heap),e= .ref ea∧s'.os=s.os∧AllBare s'.gens∧Heap.FlyingW B outer ea cls a0 s'.heap∧Un (frs outer) [] H H' s.heap s'.heap∧
  HOk P w H' s'.heap∧H' ea=none∧(∀ b o,s.heap.get? b=some o→b∉frs outer→ ∃ o',B.get? b=some o')∧(∀ b o,H' b=some o→ ∃ o',B.get? b=some o')∧E cls none H'
noncomputable def xk (ad:Ad) (E:Nat→Hp→Prop):XK:=fun cls _ H'=> ∃ c,cls= .ref (ad.cls c)∧E c H'
def XP (X:Cx) (ad:Ad) (σ:St) (E:Nat→Hp→Prop):Prop:=
 ∀ (pins:List (Addr×Obj)) (H:Hp) (s:Shared) (e:Value) (s':Shared),Inv X pins σ H s→CXe X.prog X.w X.stack H s (xk ad E) e s'→X.xe e s'
noncomputable def tE (X:Cx) (ad:Ad) (f:F):TE:=fun σ H Q=> ∃ G ρ E,Same G H∧SL X.K ad G H ρ σ∧XP X ad σ E∧RK X.K ad G H (f ρ) Q E
abbrev ME (X:Cx) (ad:Ad) (e:Expr) (f:F):Prop:=PE X e (tE X ad f)
def isTest (r:R):Prop:=(∃ b,r= .ok (.bl b))∨ ∃ c,r= .ex c
noncomputable def tT (X:Cx) (ad:Ad) (f:F):TT:=fun σ H Q=> ∃ G ρ E,Same G H∧SL X.K ad G H ρ σ∧XP X ad σ E∧isTest (f ρ)∧RK X.K ad G H (f ρ) (fun v H'=> ∃ b,v= .bl b∧Q b H') E
abbrev MT (X:Cx) (ad:Ad) (e:Expr) (f:F):Prop:=PT X e (tT X ad f)
abbrev MW (X:Cx) (ad:Ad) (e:Expr) (f:F):Prop:=PW X e (tT X ad f)
def AK (K:PySem.W.Frag) (ad:Ad) (G H:Hp) (r:RA) (Q:List V→Hp→Prop) (E:Nat→Hp→Prop):Prop:=match r with
 | .ok ds=> ∀ vs G' H',Step G H G' H'→Reps K ad G' ds vs→Q vs H'
 | .ex c=> ∀ G' H',Step G H G' H'→E c H'
 | .bad=>False
noncomputable def tA (X:Cx) (ad:Ad) (fs:List F):TA:=fun σ H Q=> ∃ G ρ E,Same G H∧SL X.K ad G H ρ σ∧XP X ad σ E∧AK X.K ad G H (args fs ρ) Q E
abbrev MA (X:Cx) (ad:Ad) (es:List Expr) (fs:List F):Prop:=PA X es (tA X ad fs)
section
variable {X:Cx} {ad:Ad} {pins:List (Addr×Obj)} {s:Shared} {σ:St} {H G:Hp} {ρ:Rho} {Q:VK} {E:Nat→Hp→Prop} {pos:Pos} {a b c:Expr} {f g h:F}
theorem aO {xs:List D} {p:Addr} {vs:List V} {G1 H1:Hp} (st:Step G H G1 H1) (n:H p=none) (m:G1 p=none) (e:H1 p=some (.lst vs)) (q:Reps X.K ad G1 xs vs):
  ∃ G2,Step G H G2 H1∧Rep X.K ad G2 (.lst xs) (.ref p):=by
 refine⟨upd G1 p (.lst vs),st.share n m e, ?_⟩
 unfold Rep
 exact⟨p,vs,rfl,SqL.of aE,q.mono (Same.upd_new m)⟩
theorem ME.thn {k:D→R} (ha:ME X ad a f) (I:Inv X pins σ H s) (hG:Same G H) (hS:SL X.K ad G H ρ σ) (hx:XP X ad σ E) (hr:RK X.K ad G H ((f ρ).bind k) Q E):
  wpAny (model X.prog X.w) X.A (eval a X.env) (fun u s1=> ∃ v d G1 H1,Inv X pins σ H1 s1∧RelV v u∧Step G H G1 H1∧Rep X.K ad G1 d v∧RK X.K ad G1 H1 (k d) Q E) X.xe s:=by
 cases e:f ρ with
 | ok d=>
  rw [e] at hr
  refine L2.thn (ha pins s σ H (fun v H1=> ∃ G1,Step G H G1 H1∧Rep X.K ad G1 d v) I ⟨G,ρ,E,hG,hS,hx,by rw [e];exact fun v G1 H1 st q=>⟨G1,st,q⟩⟩) fun u s1 ⟨v,H1,I1,r1,G1,st,q⟩=> ?_
  exact⟨v,d,G1,H1,I1,r1,st,q,RK.step hr st⟩
 | ow xs=>
  rw [e] at hr
  refine L2.thn (ha pins s σ H (fun v H1=> ∃ G1,Step G H G1 H1∧Rep X.K ad G1 (.lst xs) v) I ⟨G,ρ,E,hG,hS,hx,by rw [e];exact fun p vs G1 H1 st n m e' q=>aO st n m e' q⟩) fun u s1 ⟨v,H1,I1,r1,G1,st,q⟩=> ?_
  exact⟨v, .lst xs,G1,H1,I1,r1,st,q,RK.step hr st⟩
 | ex c=>
  rw [e] at hr
  refine L2.thn (ha pins s σ H (fun v H1=>False) I ⟨G,ρ,E,hG,hS,hx,by rw [e];exact hr⟩) fun u s1 ⟨v,H1,I1,r1,q⟩=>q.elim
 | bad=>
  rw [e] at hr
  exact False.elim hr
theorem aD {i:Int}:Rep X.K ad G (.int i) (.int i):=by unfold Rep;rfl
theorem aG {i:Bool}:Rep X.K ad G (.bl i) (.bl i):=by unfold Rep;rfl
theorem q8:Rep X.K ad G .non .non:=by unfold Rep;rfl
theorem q9 {i:Str}:Rep X.K ad G (.str i) (.str i):=by unfold Rep;rfl
theorem fN {i:Nat} {x:Str} (hN:X.N[i]? =some x) (hv:Vis X.env.scope x) (hd:(x==("__debug__":Str))=false) (hcd:(x==("__classdict__":Str))=false):ME X ad (.Name x pos) (rVar i):=by
 intro pins s σ H Q I ⟨G,ρ,E,hG,hS,hx,hr⟩
 unfold rVar at hr
 cases e:ρ[i]? with
 | none=>
  rw [e] at hr
  exact hr.elim
 | some sl=>
  rw [e] at hr
  cases sl with
  | no=>exact hr.elim
  | dc kvs=>exact hr.elim
  | sd kvs=>exact hr.elim
  | ow xs=>exact hr.elim
  | sh d=>
   obtain⟨v,h1,h2⟩:=hS.sh e
   exact aS hN hv hd hcd pins s σ H Q I ⟨v,h1,hr.ok_now hG h2⟩
def MLk (X:Cx) (ad:Ad) (e:Expr) (f:F):Prop:=
 ∀ (pins:List (Addr×Obj)) (s:Shared) (σ:St) (H G:Hp) (ρ:Rho) (k:D→R) (Q:VK) (E:Nat→Hp→Prop),Inv X pins σ H s→Same G H→SL X.K ad G H ρ σ→XP X ad σ E→RK X.K ad G H ((f ρ).bind k) Q E→
  wpAny (model X.prog X.w) X.A (eval e X.env) (fun u s1=> ∃ v d G1 H1,Inv X pins σ H1 s1∧RelV v u∧Step G H G1 H1∧(Rep X.K ad G1 d v∨ ∃ a vs ds,d= .lst ds∧v= .ref a∧G1 a=none∧H1 a=some (.lst vs)∧Reps X.K ad G1 ds vs)∧RK X.K ad G1 H1 (k d) Q E) X.xe s
theorem ME.look (ha:ME X ad a f):MLk X ad a f:=by
 intro pins s σ H G ρ k Q E I hG hS hx hr
 exact L2.thn (ha.thn I hG hS hx hr) fun u s1 ⟨v,d,G1,H1,I1,r1,st,q,z⟩=>⟨v,d,G1,H1,I1,r1,st, .inl q,z⟩
theorem iI {k:Const} {j:Nat} {d:D} (e:kD k=some d):ME X ad (.Constant k j pos) (rK d):=by
 intro pins s σ H Q I ⟨G,ρ,E,hG,hS,hx,hr⟩
 cases k with
 | int i=>cases e;exact uO pins s σ H Q I (hr.ok_now hG aD)
 | bool i=>cases e;exact xQ pins s σ H Q I (hr.ok_now hG aG)
 | none=>cases e;exact uP pins s σ H Q I (hr.ok_now hG q8)
 | str i=>cases e;exact uQ pins s σ H Q I (hr.ok_now hG q9)
 | float _=>cases e
 | complex _ _=>cases e
 | bytes _=>cases e
 | ellipsis=>cases e
theorem kR {x:Str} {d:D} {u:Value} {v:V} (hg:L2.Gl X x) (hm:X.mg x=some u) (r:RelV v u) (q: ∀ G,Rep X.K ad G d v) (hd:(x==("__debug__":Str))=false):ME X ad (.Name x pos) (rK d):=by
 intro pins s σ H Q I ⟨G,ρ,E,hG,hS,hx,hr⟩
 exact qN hg hm r hd pins s σ H Q I (hr.ok_now hG (q G))
def DOp (X:Cx) (ad:Ad) (t:Value→Value→Sem Value) (r:D→D→R):Prop:=
 ∀ (pins:List (Addr×Obj)) (s:Shared) (σ:St) (H G:Hp) (x y:D) (v w:V) (u z:Value) (Q:VK) (E:Nat→Hp→Prop),Inv X pins σ H s→Same G H→Rep X.K ad G x v→Rep X.K ad G y w→RelV v u→RelV w z→
  RK X.K ad G H (r x y) Q E→wpAny (model X.prog X.w) X.A (t u z) (EP X pins σ Q) X.xe s
theorem pW {t:Value→Value→Sem Value} {r:D→D→R} (ho:DOp X ad t r) (ha:ME X ad a f) (hb:ME X ad b g) (I:Inv X pins σ H s) (hG:Same G H) (hS:SL X.K ad G H ρ σ) (hx:XP X ad σ E)
  (hr:RK X.K ad G H ((f ρ).bind fun x=>(g ρ).bind fun y=>r x y) Q E):
  wpAny (model X.prog X.w) X.A (eval a X.env) (fun v s₁=>wpAny (model X.prog X.w) X.A (eval b X.env) (fun u s₂=>wpAny (model X.prog X.w) X.A (t v u) (EP X pins σ Q) X.xe s₂) X.xe s₁) X.xe s:=by
 refine L2.thn (ha.thn I hG hS hx hr) fun u s1 hz_=> ?_
 obtain⟨v,d,G1,H1,I1,r1,st1,q1,hr1⟩:=hz_
 refine L2.thn (hb.thn I1 st1.gh (hS.step st1) hx hr1) fun z s2 hz_=> ?_
 obtain⟨w,e,G2,H2,I2,r2,st2,q2,hr2⟩:=hz_
 exact ho pins s2 σ H2 G2 d e v w u z Q E I2 st2.gh (q1.mono st2.sg) q2 r1 r2 hr2
end
section
variable {X:Cx} {ad:Ad} {pins:List (Addr×Obj)} {s:Shared} {σ:St} {H G:Hp} {ρ:Rho} {Q:VK} {E:Nat→Hp→Prop} {pos:Pos} {a b c:Expr} {f g h:F}
theorem iJ {n:Nat} (h:n≤LIM):n≤sizeLine:=Nat.le_trans h (by decide)
theorem gT {i:Int} (h:sml i=true): -(2 ^ 64)<i∧i<2 ^ 64:=by
 unfold sml at h
 rw [Bool.and_eq_true] at h
 exact⟨of_decide_eq_true h.1,of_decide_eq_true h.2⟩
theorem eM {i:Int} (h:sml i=true):i.natAbs<2 ^ 64:=by
 obtain⟨h1,h2⟩:=gT h
 omega
theorem sub_int_bool {prog:Program} {w:World} {A:Around} {Ex:Value→Shared→Prop} {s:Shared} {i:Int} {t:Tok} {k:Bool} {Q:Value→Shared→Prop} (h:Q (.int (i - SK.b2i k) s.toks) { s with toks:=s.toks+1 }):
  wpAny (model prog w) A (binaryOp .Sub (.int i t) (.bool k)) Q Ex s:=PySem.IntBool.sub_int_bool h
theorem add_int_bool {prog:Program} {w:World} {A:Around} {Ex:Value→Shared→Prop} {s:Shared} {i:Int} {t:Tok} {k:Bool} {Q:Value→Shared→Prop} (h:Q (.int (i+SK.b2i k) s.toks) { s with toks:=s.toks+1 }):
  wpAny (model prog w) A (binaryOp .Add (.int i t) (.bool k)) Q Ex s:=PySem.add_int_bool h
theorem rB {prog:Program} {w:World} {A:Around} {Ex:Value→Shared→Prop} {s:Shared} {t b:Addr} {ws:List Value} {Q:Value→Shared→Prop} (ht:IsTup s.heap t #[]) (hb:IsTup s.heap b ws.toArray) (h:Q (.ref b) s):
  wpAny (model prog w) A (binaryOp .Add (.ref t) (.ref b)) Q Ex s:=by
 obtain⟨⟨cls,dd,data,sl⟩,ho,hc,n,hd⟩:=id ht
 obtain⟨⟨cls2,dd2,data2,sl2⟩,ho2,hc2,n2,hd2⟩:=id hb
 simp only at hc hd hc2 hd2
 subst hc hd hc2 hd2
 exact concat_meets ⟨_,ho,rfl⟩ ⟨_,ho2,rfl⟩ noFill_tuple_add seq_tuple_add PySem.F.slot_tuple_add PySem.F.entry_tuple_add (PySem.F.args_tuple_add_2 _ _)
   (tuple_addW0 t b #[] ws.toArray n n2 dd dd2 sl sl2 rfl) ⟨ho,ho2,h⟩
theorem b9 (its:List Value) (m:Nat):List.foldl (fun x1 x2=>x1++x2) #[] (List.replicate m its.toArray)=(List.replicate m its).flatten.toArray:=by
 have:=fI its m []
 rw [List.nil_append] at this
 exact this
theorem rC {t:Addr} {k:Int} {u:Tok} {xs:List V} {its:List Value} (I:Inv X pins σ H s) (ht:IsTup s.heap t its.toArray) (r:Vals xs its) (h0: -1000000<k) (h1:k<1000000) (hz:xs.length * k.toNat≤sizeLine)
  (q: ∀ p,(p=t∧(List.replicate k.toNat xs).flatten=xs→Q (.ref p) H)∧(H p=none→Q (.ref p) (upd H p (.tup (List.replicate k.toNat xs).flatten)))):
  wpAny (model X.prog X.w) X.A (binaryOp .Mult (.ref t) (.int k u)) (EP X pins σ Q) X.xe s:=by
 obtain⟨⟨cls,dd,data,sl⟩,e,hc,n,hd⟩:=id ht
 simp only at hc hd
 subst hc hd
 have hov:(decide (k< -(2 ^ 63))||decide (k≥2 ^ 63))=false:=by
  rw [Bool.or_eq_false_iff]
  exact⟨decide_eq_false (by omega),decide_eq_false (by omega)⟩
 have hlen:its.length * k.toNat≤sizeLine:=by rw [←r.length];exact hz
 have lrep:(List.replicate k.toNat xs).flatten.length≤sizeLine:=by rw [gM,Nat.mul_comm];exact hz
 refine wpAny_binaryOp_repeat_ref (T:="tuple") (U:="int") (by decide) ⟨_,e,rfl⟩ (fun s'=>typeIs_int s' k u) cP F.fills_int_mul F.slot_int_rmul fL F.slot_int_index.lookup
  (call_meets F.slot_int_rmul (typeIs_int s k u) F.entry_int_rmul (F.args_int_rmul_2 _ _) (bJ k u t its.toArray n "tuple" dd sl (.inr rfl))
   ⟨e,rfl,⟨_,e,rfl⟩, ?_⟩)
 by_cases c0:(its.toArray.isEmpty||k==1)=true
 ·refine call_meets F.slot_tuple_mul ⟨_,e,rfl⟩ F.entry_tuple_mul (F.args_tuple_mul_2 _ _) (gN t its.toArray n k u dd sl hov c0) ⟨e, ?_⟩
  refine⟨.ref t,H,I,rfl,(q t).1 ⟨rfl, ?_⟩⟩
  rcases(Bool.or_eq_true _ _).mp c0 with z | z
  ·have:its=[]:=by simpa using z
   have:xs=[]:=r.nil_iff.mp this
   subst this
   simp
  ·have:k=1:=by simpa using z
   subst this
   simp
 ·by_cases c1:(decide (k≤0)||its.toArray.isEmpty)=true
  ·refine call_meets F.slot_tuple_mul ⟨_,e,rfl⟩ F.entry_tuple_mul (F.args_tuple_mul_2 _ _) (gO t its.toArray n k u dd sl hov c0 c1) ⟨e, ?_⟩
   have k0:k.toNat=0:=by
    rcases(Bool.or_eq_true _ _).mp c1 with z | z
    ·have:=of_decide_eq_true z
     omega
    ·exact absurd (by rw [z];rfl) c0
   have q2:=(q s.heap.objs.size).2 (I.hok.fresh (Nat.le_refl _))
   rw [k0] at q2
   refine⟨.ref s.heap.objs.size,_,I.laid (t':=s.toks) (o:= .tup []) (fun b ob q=>Heap.get?_push_of_some _ q) (Nat.le_refl _) ?_,rfl,q2⟩
   exact⟨Nat.zero_le _,[], .nil,IsTup.new _ _,⟨_,Heap.get?_push_size _ rfl,rfl⟩⟩
  ·have kp:0<k:=by
    rw [Bool.or_eq_true,not_or] at c1
    have:=c1.1
    rw [decide_eq_true_iff] at this
    omega
   have kk:(k.toNat:Int)=k:=by omega
   have hm:(its.toArray.size:Int) * k=((its.length * k.toNat:Nat):Int):=by rw [Int.natCast_mul,kk,List.size_toArray]
   have hs:(sizeLine:Nat)≤(2 ^ 63 - 1) / 8:=by decide
   refine call_meets F.slot_tuple_mul ⟨_,e,rfl⟩ F.entry_tuple_mul (F.args_tuple_mul_2 _ _) (gP t its.toArray n k u dd sl hov c0 c1 ?_ ?_ ?_) ⟨e, ?_⟩
   ·rw [hm]
    have:((its.length * k.toNat:Nat):Int)≤((2 ^ 63 - 1) / 8:Int):=by
     have:=Nat.le_trans hlen hs
     omega
    omega
   ·rw [hm]
    unfold Builtin.Tuple.tupleTooMany
    simp only [decide_eq_true_eq,gt_iff_lt,Int.not_lt]
    exact Int.ofNat_le.mpr hlen
   ·rw [b9,List.size_toArray,gM,Nat.mul_comm]
    exact hlen
   ·rw [b9]
    refine⟨.ref s.heap.objs.size,_,I.laid (t':=s.toks) (o:= .tup (List.replicate k.toNat xs).flatten) (fun b ob q=>Heap.get?_push_of_some _ q) (Nat.le_refl _) ?_,rfl,(q _).2 (I.hok.fresh (Nat.le_refl _))⟩
    exact⟨lrep,_,r.rep k.toNat,IsTup.new _ _,⟨_,Heap.get?_push_size _ rfl,rfl⟩⟩
theorem rD {l b:Addr} {xs ys:List V} (I:Inv X pins σ H s) (hl:SqL X.K H l xs) (hb:SqL X.K H b ys) (hz:xs.length+ys.length≤sizeLine) (q: ∀ p,H p=none→Q (.ref p) (upd H p (.lst (xs++ys)))):
  wpAny (model X.prog X.w) X.A (binaryOp .Add (.ref l) (.ref b)) (EP X pins σ Q) X.xe s:=by
 obtain⟨its,r1,⟨⟨cls,dd,data,sl⟩,n,ho,hc,hdd,hd⟩,_⟩:=I.list hl
 obtain⟨its2,r2,⟨⟨cls2,dd2,data2,sl2⟩,n2,ho2,hc2,hdd2,hd2⟩,_⟩:=I.list hb
 simp only at hc hd hc2 hd2 hdd hdd2
 subst hc hd hc2 hd2
 have e:its.toArray++its2.toArray=(its++its2).toArray:=by simp
 refine concat_meets ⟨_,ho,rfl⟩ ⟨_,ho2,rfl⟩ noFill_list_add seq_list_add PySem.F.slot_list_add PySem.F.entry_list_add (PySem.F.args_list_add_2 _ _)
   (list_addW l b its.toArray its2.toArray n n2 dd dd2 sl sl2 (by rw [List.size_toArray,List.size_toArray, ←r1.length, ←r2.length];exact hz)) ⟨ho,ho2, ?_⟩
 rw [e]
 exact⟨.ref _,_,I.lnew (t':=s.toks) (r1.append r2) (by rw [List.length_append];exact hz),rfl,q _ I.fresh⟩
theorem rE {l:Addr} {k:Int} {u:Tok} {xs:List V} (I:Inv X pins σ H s) (hl:SqL X.K H l xs) (h0: -1000000<k) (h1:k<1000000) (hz:xs.length * k.toNat≤sizeLine) (q: ∀ p,H p=none→Q (.ref p) (upd H p (.lst (List.replicate k.toNat xs).flatten))):
  wpAny (model X.prog X.w) X.A (binaryOp .Mult (.ref l) (.int k u)) (EP X pins σ Q) X.xe s:=by
 obtain⟨its,r,⟨⟨cls,dd,data,sl⟩,n,e,hc,hdd,hd⟩,_⟩:=I.list hl
 simp only at hc hd hdd
 subst hc hd
 have hlen:its.toArray.size * k.toNat≤sizeLine:=by rw [List.size_toArray, ←r.length];exact hz
 have hcap: ¬ its.toArray.size * k.toNat > (2 ^ 63 - 1) / 8:=by
  have:(sizeLine:Nat)≤(2 ^ 63 - 1) / 8:=by decide
  omega
 have hfit: ¬ (!Builtin.List.listFitsIndex k)=true:=by
  rw [fitsIndex_both (by omega) (by omega)]
  exact Bool.false_ne_true
 have hlong: ¬ Builtin.List.listTooLong (its.toArray.size * k.toNat)=true:=by
  rw [iH hlen]
  exact Bool.false_ne_true
 have hnew:List.foldl (fun x1 x2=>x1++x2) #[] (List.replicate (if its.toArray.isEmpty=true then 0 else k.toNat) its.toArray)=(List.replicate k.toNat its).flatten.toArray:=by
  rw [b9]
  cases its with
  | nil=>simp
  | cons a r'=>rw [if_neg (by simp)]
 refine wpAny_binaryOp_repeat_ref (T:="list") (U:="int") (by decide) ⟨_,e,rfl⟩ (fun s'=>typeIs_int s' k u) noFill_list_mul F.fills_int_mul F.slot_int_rmul repeat_list F.slot_int_index.lookup
  (call_meets F.slot_int_rmul (typeIs_int s k u) F.entry_int_rmul (F.args_int_rmul_2 _ _) (bJ k u l its.toArray n "list" dd sl (.inl rfl))
   ⟨e,rfl,⟨_,e,rfl⟩,call_meets F.slot_list_mul ⟨_,e,rfl⟩ F.entry_list_mul (F.args_list_mul_2 _ _) (kQ l its.toArray n k u dd sl hfit hcap hlong) ⟨e, ?_⟩⟩)
 rw [hnew]
 exact⟨.ref _,_,I.lnew (t':=s.toks) (r.rep k.toNat) (by rw [gM,Nat.mul_comm];exact hz),rfl,q _ I.fresh⟩
theorem rF (op:Operator):DOp X ad (binaryOp op) (dBin op):=by
 intro pins s σ H G x y v w u z Q E I hG rx ry ru rz hr
 cases x with
 | int i=>
  unfold Rep at rx
  subst rx
  cases y with
  | int j=>
   unfold Rep at ry
   subst ry
   cases op with
   | Add=>exact uZ pins s σ H _ _ u z Q I ru rz ⟨i,j,rfl,rfl,hr.ok_now hG aD⟩
   | Sub=>exact u6 pins s σ H _ _ u z Q I ru rz ⟨i,j,rfl,rfl,hr.ok_now hG aD⟩
   | Mult=>
    have hr':RK X.K ad G H (if sml i||sml j then R.ok (.int (i * j)) else .bad) Q E:=hr
    by_cases hc:(sml i||sml j)=true
    ·rw [if_pos hc] at hr'
     refine u7 pins s σ H _ _ u z Q I ru rz ⟨i,j,rfl,rfl, ?_,hr'.ok_now hG aD⟩
     rcases(Bool.or_eq_true _ _).mp hc with h | h
     ·exact .inl (gT h)
     ·exact .inr (gT h)
    ·rw [if_neg hc] at hr'
     exact hr'.elim
   | FloorDiv=>
    have hr':RK X.K ad G H (if 0<j∧j<1073741824 then R.ok (.int (i / j)) else .bad) Q E:=hr
    by_cases hc:0<j∧j<1073741824
    ·rw [if_pos hc] at hr'
     exact qU pins s σ H _ _ u z Q I ru rz ⟨i,j,rfl,rfl,hc,hr'.ok_now hG aD⟩
    ·rw [if_neg hc] at hr'
     exact hr'.elim
   | Mod=>
    have hr':RK X.K ad G H (if 0<j then R.ok (.int (i % j)) else .bad) Q E:=hr
    by_cases hc:0<j
    ·rw [if_pos hc] at hr'
     exact u8 pins s σ H _ _ u z Q I ru rz ⟨i,j,rfl,rfl,hc,hr'.ok_now hG aD⟩
    ·rw [if_neg hc] at hr'
     exact hr'.elim
   | LShift=>
    have hr':RK X.K ad G H (if 0≤j∧j≤1000∧sml i=true then R.ok (.int (i * 2 ^ j.toNat)) else .bad) Q E:=hr
    by_cases hc:0≤j∧j≤1000∧sml i=true
    ·rw [if_pos hc] at hr'
     exact u9 pins s σ H _ _ u z Q I ru rz ⟨i,j,rfl,rfl,⟨hc.1,by omega,eM hc.2.2⟩,hr'.ok_now hG aD⟩
    ·rw [if_neg hc] at hr'
     exact hr'.elim
   | RShift=>
    have hr':RK X.K ad G H (if 0≤j then R.ok (.int (i / 2 ^ j.toNat)) else .bad) Q E:=hr
    by_cases hc:0≤j
    ·rw [if_pos hc] at hr'
     exact vA pins s σ H _ _ u z Q I ru rz ⟨i,j,rfl,rfl,hc,hr'.ok_now hG aD⟩
    ·rw [if_neg hc] at hr'
     exact hr'.elim
   | BitAnd=>exact vB pins s σ H _ _ u z Q I ru rz ⟨i,j,rfl,rfl,hr.ok_now hG aD⟩
   | BitOr=>exact xU pins s σ H _ _ u z Q I ru rz ⟨i,j,rfl,rfl,hr.ok_now hG aD⟩
   | BitXor=>exact vC pins s σ H _ _ u z Q I ru rz ⟨i,j,rfl,rfl,hr.ok_now hG aD⟩
   | MatMult=>exact False.elim hr
   | Div=>exact False.elim hr
   | Pow=>exact False.elim hr
  | bl k=>
   unfold Rep at ry
   subst ry
   obtain⟨t,rfl⟩:=ru
   cases (show z=Value.bool k from rz)
   cases op with
   | Sub=>exact sub_int_bool ⟨.int _,H,I.tok _,⟨_,rfl⟩,hr.ok_now hG aD⟩
   | Add=>exact add_int_bool ⟨.int _,H,I.tok _,⟨_,rfl⟩,hr.ok_now hG aD⟩
   | _=>exact False.elim hr
  | _=>cases op<;>exact False.elim hr
 | tup xs=>
  unfold Rep at rx
  obtain⟨p,vs,rfl,hp,rp⟩:=rx
  cases y with
  | tup ys=>
   unfold Rep at ry
   obtain⟨q,ws,rfl,hq,rq⟩:=ry
   cases op with
   | Add=>
    have hr':RK X.K ad G H (if xs.length+ys.length≤LIM then R.ok (.tup (xs++ys)) else .bad) Q E:=hr
    by_cases hc:xs.length+ys.length≤LIM
    ·rw [if_pos hc] at hr'
     have l1:=rp.length
     have l2:=rq.length
     by_cases hv:vs=[]
     ·subst hv
      cases (show u=Value.ref p from ru)
      cases (show z=Value.ref q from rz)
      obtain⟨its,r1,p1,_⟩:=I.tuple (hG.seqT hp)
      obtain⟨its2,r2,p2,_⟩:=I.tuple (hG.seqT hq)
      cases r1
      refine rB p1 p2 ⟨.ref q,H,I,rfl,hr'.ok_now hG ?_⟩
      have:xs=[]:=by simpa using l1.symm
      subst this
      unfold Rep
      exact⟨q,ws,rfl,hq,rq⟩
     ·refine qW pins s σ H _ _ u z Q I ru rz ⟨p,q,vs,ws,rfl,rfl,hG.seqT hp,hG.seqT hq,hv,by rw [l1,l2];exact iJ hc,fun hw=> ?_,fun hw a ha=> ?_⟩
      ·subst hw
       have:ys=[]:=by simpa using l2.symm
       subst this
       refine hr'.ok_now hG ?_
       unfold Rep
       exact⟨p,vs,rfl,hp,by rw [List.append_nil];exact rp⟩
      ·exact hr'.tup_new hG (rp.append rq) ha
    ·rw [if_neg hc] at hr'
     exact hr'.elim
   | _=>exact False.elim hr
  | int k=>
   unfold Rep at ry
   subst ry
   cases op with
   | Mult=>
    have hr':RK X.K ad G H (if -1000000<k∧k<1000000∧xs.length * k.toNat≤LIM then R.ok (.tup (repL xs k)) else .bad) Q E:=hr
    by_cases hc: -1000000<k∧k<1000000∧xs.length * k.toNat≤LIM
    ·rw [if_pos hc] at hr'
     cases (show u=Value.ref p from ru)
     obtain⟨t,rfl⟩:=rz
     obtain⟨its,r1,p1,_⟩:=I.tuple (hG.seqT hp)
     refine rC I p1 r1 hc.1 hc.2.1 (by rw [rp.length];exact iJ hc.2.2) fun a=>⟨fun⟨e1,e2⟩=> ?_,fun ha=> ?_⟩
     ·subst e1
      refine hr'.ok_now hG ?_
      unfold Rep
      exact⟨a,vs,rfl,hp,by rw [←e2];exact rp.rep k.toNat⟩
     ·exact hr'.tup_new hG (rp.rep k.toNat) ha
    ·rw [if_neg hc] at hr'
     exact hr'.elim
   | _=>exact False.elim hr
  | _=>cases op<;>exact False.elim hr
 | lst xs=>
  unfold Rep at rx
  obtain⟨p,vs,rfl,hp,rp⟩:=rx
  cases y with
  | lst ys=>
   unfold Rep at ry
   obtain⟨q,ws,rfl,hq,rq⟩:=ry
   cases op with
   | Add=>
    have hr':RK X.K ad G H (if xs.length+ys.length≤LIM then R.ow (xs++ys) else .bad) Q E:=hr
    by_cases hc:xs.length+ys.length≤LIM
    ·rw [if_pos hc] at hr'
     cases (show u=Value.ref p from ru)
     cases (show z=Value.ref q from rz)
     exact rD I (hG.seq hp) (hG.seq hq) (by rw [rp.length,rq.length];exact iJ hc) fun a ha=>hr'.ow_new hG (rp.append rq) ha
    ·rw [if_neg hc] at hr'
     exact hr'.elim
   | _=>exact False.elim hr
  | int k=>
   unfold Rep at ry
   subst ry
   cases op with
   | Mult=>
    have hr':RK X.K ad G H (if -1000000<k∧k<1000000∧xs.length * k.toNat≤LIM then R.ow (repL xs k) else .bad) Q E:=hr
    by_cases hc: -1000000<k∧k<1000000∧xs.length * k.toNat≤LIM
    ·rw [if_pos hc] at hr'
     cases (show u=Value.ref p from ru)
     obtain⟨t,rfl⟩:=rz
     exact rE I (hG.seq hp) hc.1 hc.2.1 (by rw [rp.length];exact iJ hc.2.2) fun a ha=>hr'.ow_new hG (rp.rep k.toNat) ha
    ·rw [if_neg hc] at hr'
     exact hr'.elim
   | _=>exact False.elim hr
  | _=>cases op<;>exact False.elim hr
 | _=>cases y<;>cases op<;>exact False.elim hr
theorem pX {op:Operator} (ha:ME X ad a f) (hb:ME X ad b g):ME X ad (.BinOp a op b pos) (rBin op f g):=by
 intro pins s σ H Q I ⟨G,ρ,E,hG,hS,hx,hr⟩
 exact wpAny_BinOp (pW (rF op) ha hb I hG hS hx hr)
end
section
variable {X:Cx} {ad:Ad} {pins:List (Addr×Obj)} {s:Shared} {σ:St} {H G:Hp} {ρ:Rho} {Q:VK} {E:Nat→Hp→Prop} {pos:Pos} {a b c:Expr} {f g h:F}
mutual
theorem aV (I:Inv X pins σ H s) (hG:Same G H): ∀ {d:D} {v:V} {u:Value},plain d=true→Rep X.K ad G d v→RelV v u→ ∃ as,Reads s.heap u (toPy d) as
 | .non,v,u,_,h,r=>by
  unfold Rep at h;subst h
  cases r
  unfold toPy
  exact⟨_, .none⟩
 | .bl b,v,u,_,h,r=>by
  unfold Rep at h;subst h
  cases r
  unfold toPy
  exact⟨_, .bool b⟩
 | .int i,v,u,_,h,r=>by
  unfold Rep at h;subst h
  obtain⟨t,rfl⟩:=r
  unfold toPy
  exact⟨_, .int i t⟩
 | .str x,v,u,_,h,r=>by
  unfold Rep at h;subst h
  obtain⟨t,rfl⟩:=r
  unfold toPy
  exact⟨_, .str x t⟩
 | .tup ds,v,u,p,h,r=>by
  unfold Rep at h
  obtain⟨a,vs,rfl,h2,h3⟩:=h
  cases r
  obtain⟨its,rv,⟨o,ho,hc,n,hd⟩,_⟩:=I.tuple (hG.seqT h2)
  obtain⟨as,ra⟩:=bK I hG (by simpa [plain] using p) h3 rv
  unfold toPy
  exact⟨_, .tuple ho hc hd (by simpa using ra)⟩
 | .lst ds,v,u,p,h,r=>by
  unfold Rep at h
  obtain⟨a,vs,rfl,h2,h3⟩:=h
  cases r
  obtain⟨its,rv,⟨o,n,ho,hc,_,hd⟩,_⟩:=I.list (hG.seq h2)
  obtain⟨as,ra⟩:=bK I hG (by simpa [plain] using p) h3 rv
  unfold toPy
  exact⟨_, .list ho hc hd (by simpa using ra)⟩
 | .exc _,_,_,p,_,_=>by simp [plain] at p
 | .fn _,_,_,p,_,_=>by simp [plain] at p
theorem bK (I:Inv X pins σ H s) (hG:Same G H): ∀ {ds:List D} {vs:List V} {us:List Value},plains ds=true→Reps X.K ad G ds vs→Vals vs us→ ∃ as,ReadsAll s.heap us (toPys ds) as
 | [],vs,us,_,h,r=>by
  unfold Reps at h;subst h
  cases r
  unfold toPys
  exact⟨_, .nil⟩
 | d::ds,vs,us,p,h,r=>by
  unfold Reps at h
  obtain⟨v,r',rfl,h2,h3⟩:=h
  have p':plain d=true∧plains ds=true:=by simpa [plains] using p
  cases r with
  | cons r1 r2=>
   obtain⟨as,q1⟩:=aV I hG p'.1 h2 r1
   obtain⟨bs,q2⟩:=bK I hG p'.2 h3 r2
   unfold toPys
   exact⟨_, .cons q1 q2⟩
end
theorem cQ {x y:D} (h:eqOk x y=true):plain x=true∧plain y=true∧min (dep x) (dep y)≤60:=by
 unfold eqOk at h
 rw [Bool.and_eq_true,Bool.and_eq_true] at h
 exact⟨h.1.1,h.1.2,of_decide_eq_true h.2⟩
theorem rH {A:Around} {x y:D} {v w:V} {u z:Value} (hu:A.units+61<cLine) (I:Inv X pins σ H s) (hG:Same G H) (h:eqOk x y=true) (rx:Rep X.K ad G x v) (ry:Rep X.K ad G y w) (ru:RelV v u) (rz:RelV w z):
  SeqAt.EqAt A s u z (deq x y):=by
 obtain⟨p1,p2,p3⟩:=cQ h
 obtain⟨as,q1⟩:=aV I hG p1 rx ru
 obtain⟨bs,q2⟩:=aV I hG p2 ry rz
 rw [←bZ x y p1 p2]
 exact SeqAt.eqAt_reads (toPy x) (toPy y) A s u z as bs q1 q2 (cM p1) (cM p2) (by rw [cN,cN];omega)
theorem gU {M:Model} {A:Around} {Ex:Value→Shared→Prop} {s:Shared} {Q:Value→Shared→Prop} {v:V} {u:Value} {b:Bool} (r:RelV v u) (h:Q (.bool (decide (v= .bl b))) s):wpAny M A (compareOp .Is u (.bool b)) Q Ex s:=by
 cases v with
 | bl a=>
  cases (show u=Value.bool a from r)
  refine wpAny_pure (show Q (.bool (Value.bool a==Value.bool b)) s from ?_)
  have e:(Value.bool a==Value.bool b)=decide (V.bl a=V.bl b):=by cases a<;>cases b<;>rfl
  rw [e];exact h
 | non=>cases (show u=Value.none from r);exact wpAny_pure h
 | int i=>obtain⟨t,rfl⟩:=r;exact wpAny_pure h
 | str i=>obtain⟨t,rfl⟩:=r;exact wpAny_pure h
 | byt i=>obtain⟨t,rfl⟩:=r;exact wpAny_pure h
 | flt i=>obtain⟨t,rfl⟩:=r;exact wpAny_pure h
 | ref p=>cases (show u=Value.ref p from r);exact wpAny_pure h
 | ty p=>cases (show u=Value.type p from r);exact wpAny_pure h
theorem d6 {M:Model} {A:Around} {Ex:Value→Shared→Prop} {s:Shared} {Q:Value→Shared→Prop} {v:V} {u:Value} {b:Bool} (r:RelV v u) (h:Q (.bool (!decide (v= .bl b))) s):wpAny M A (compareOp .IsNot u (.bool b)) Q Ex s:=by
 cases v with
 | bl a=>
  cases (show u=Value.bool a from r)
  refine wpAny_pure (show Q (.bool (!(Value.bool a==Value.bool b))) s from ?_)
  have e:(Value.bool a==Value.bool b)=decide (V.bl a=V.bl b):=by cases a<;>cases b<;>rfl
  rw [e];exact h
 | non=>cases (show u=Value.none from r);exact wpAny_pure h
 | int i=>obtain⟨t,rfl⟩:=r;exact wpAny_pure h
 | str i=>obtain⟨t,rfl⟩:=r;exact wpAny_pure h
 | byt i=>obtain⟨t,rfl⟩:=r;exact wpAny_pure h
 | flt i=>obtain⟨t,rfl⟩:=r;exact wpAny_pure h
 | ref p=>cases (show u=Value.ref p from r);exact wpAny_pure h
 | ty p=>cases (show u=Value.type p from r);exact wpAny_pure h
theorem fO {x:D} {v:V} {b:Bool} (r:Rep X.K ad G x v):decide (v= .bl b)=isBl b x:=by
 cases x with
 | bl a=>unfold Rep at r;subst r;cases a<;>cases b<;>rfl
 | non=>unfold Rep at r;subst r;rfl
 | int _=>unfold Rep at r;subst r;rfl
 | str _=>unfold Rep at r;subst r;rfl
 | tup _=>unfold Rep at r;obtain⟨p,_,rfl,_⟩:=r;rfl
 | lst _=>unfold Rep at r;obtain⟨p,_,rfl,_⟩:=r;rfl
 | exc _=>unfold Rep at r;obtain⟨p,rfl,_⟩:=r;rfl
 | fn _=>unfold Rep at r;subst r;rfl
theorem d9 {x:D} {v:V} (r:Rep X.K ad G x v):decide (v= .non)=isNon x:=by
 cases x with
 | bl a=>unfold Rep at r;subst r;rfl
 | non=>unfold Rep at r;subst r;rfl
 | int _=>unfold Rep at r;subst r;rfl
 | str _=>unfold Rep at r;subst r;rfl
 | tup _=>unfold Rep at r;obtain⟨p,_,rfl,_⟩:=r;rfl
 | lst _=>unfold Rep at r;obtain⟨p,_,rfl,_⟩:=r;rfl
 | exc _=>unfold Rep at r;obtain⟨p,rfl,_⟩:=r;rfl
 | fn _=>unfold Rep at r;subst r;rfl
theorem dH {y:D} {ys:List D} {w:V} (e:items y=some ys) (r:Rep X.K ad G y w): ∃ a vs,w= .ref a∧(SqT X.K G a vs∨SqL X.K G a vs)∧Reps X.K ad G ys vs:=by
 cases y with
 | tup _=>cases e;unfold Rep at r;obtain⟨a,vs,h1,h2,h3⟩:=r;exact⟨a,vs,h1, .inl h2,h3⟩
 | lst _=>cases e;unfold Rep at r;obtain⟨a,vs,h1,h2,h3⟩:=r;exact⟨a,vs,h1, .inr h2,h3⟩
 | _=>cases e
theorem iK: ∀ {ys:List D} {vs:List V} {us:List Value},Reps X.K ad G ys vs→Vals vs us→ ∀ u∈us, ∃ d∈ys, ∃ v,Rep X.K ad G d v∧RelV v u
 | [],vs,us,h,r,u,hu=>by
  unfold Reps at h;subst h
  cases r
  cases hu
 | d::ds,vs,us,h,r,u,hu=>by
  unfold Reps at h
  obtain⟨v,r',rfl,h2,h3⟩:=h
  cases r with
  | cons r1 r2=>
   rcases List.mem_cons.mp hu with rfl | hu
   ·exact⟨d, .head _,v,h2,r1⟩
   ·obtain⟨d',hd,v',q⟩:=iK h3 r2 u hu
    exact⟨d', .tail _ hd,v',q⟩
theorem iL (p:D→Bool) (q:Value→Bool): ∀ {ys:List D} {vs:List V} {us:List Value},Reps X.K ad G ys vs→Vals vs us→(∀ d∈ys, ∀ v u,Rep X.K ad G d v→RelV v u→q u=p d)→us.any q=ys.any p
 | [],vs,us,h,r,_=>by
  unfold Reps at h;subst h
  cases r
  rfl
 | d::ds,vs,us,h,r,k=>by
  unfold Reps at h
  obtain⟨v,r',rfl,h2,h3⟩:=h
  cases r with
  | cons r1 r2=>
   rw [List.any_cons,List.any_cons,k d (.head _) v _ h2 r1,iL p q h3 r2 fun d' hd=>k d' (.tail _ hd)]
theorem eA (p:D→Bool) (q:Value→Bool): ∀ {ys:List D} {vs:List V} {us:List Value},Reps X.K ad G ys vs→Vals vs us→(∀ d∈ys, ∀ v u,Rep X.K ad G d v→RelV v u→q u=p d)→us.countP q=ys.countP p
 | [],vs,us,h,r,_=>by
  unfold Reps at h;subst h
  cases r
  rfl
 | d::ds,vs,us,h,r,k=>by
  unfold Reps at h
  obtain⟨v,r',rfl,h2,h3⟩:=h
  cases r with
  | cons r1 r2=>
   rw [List.countP_cons,List.countP_cons,k d (.head _) v _ h2 r1,eA p q h3 r2 fun d' hd=>k d' (.tail _ hd)]
theorem fP (p:D→Bool) (q:Value→Bool): ∀ {ys:List D} {vs:List V} {us:List Value},Reps X.K ad G ys vs→Vals vs us→(∀ d∈ys, ∀ v u,Rep X.K ad G d v→RelV v u→q u=p d)→us.findIdx? q=ys.findIdx? p
 | [],vs,us,h,r,_=>by
  unfold Reps at h;subst h
  cases r
  rfl
 | d::ds,vs,us,h,r,k=>by
  unfold Reps at h
  obtain⟨v,r',rfl,h2,h3⟩:=h
  cases r with
  | cons r1 r2=>
   rw [List.findIdx?_cons,List.findIdx?_cons,k d (.head _) v _ h2 r1,fP p q h3 r2 fun d' hd=>k d' (.tail _ hd)]
open Classical in
theorem eB {x:D} {ys:List D} {v:V} {u:Value} {vs:List V} {its:List Value} (hu:X.A.units+62<cLine) (I:Inv X pins σ H s) (hG:Same G H) (h:inOk x ys=true) (rx:Rep X.K ad G x v) (ru:RelV v u) (r:Reps X.K ad G ys vs) (rv:Vals vs its):
  ∃ e:Value→Bool,(∀ y,y∈its.toArray→SeqAt.EqAt X.A.in1 s y u (e y))∧its.toArray.any e=(ys.any fun y=>deq y x)∧its.countP e=(ys.countP fun y=>deq y x)∧its.findIdx? e=ys.findIdx? fun y=>deq y x:=by
 have ok: ∀ d∈ys,eqOk d x=true:=fun d hd=>zAd h d hd
 have key: ∀ d∈ys, ∀ v' u',Rep X.K ad G d v'→RelV v' u'→(decide (∃ d' as,plain d'=true∧Reads s.heap u' (toPy d') as∧PyData.eqv (toPy d') (toPy x)=true))=deq d x:=fun d hd v' u' r1 r2=>by
  obtain⟨p1,p2,_⟩:=cQ (ok d hd)
  obtain⟨as,q1⟩:=aV I hG p1 r1 r2
  rw [←bZ d x p1 p2]
  by_cases z:PyData.eqv (toPy d) (toPy x)=true
  ·rw [z]
   exact decide_eq_true ⟨d,as,p1,q1,z⟩
  ·rw [Bool.not_eq_true] at z
   rw [z]
   refine decide_eq_false ?_
   rintro⟨d',as',p',q',z'⟩
   have:=SeqAt.Reads.unique (toPy d) (toPy d') u' as as' (cM p1) q1 q'
   rw [←this,z] at z'
   cases z'
 refine⟨fun u'=>decide (∃ d' as,plain d'=true∧Reads s.heap u' (toPy d') as∧PyData.eqv (toPy d') (toPy x)=true),fun y hy=> ?_, ?_,eA _ _ r rv key,fP _ _ r rv key⟩
 ·obtain⟨d,hd,v',r1,r2⟩:=iK r rv y (by simpa using hy)
  have:=rH (A:=X.A.in1) (by show X.A.units+1+61<_;omega) I hG (ok d hd) r1 rx r2 ru
  rw [←key d hd v' y r1 r2] at this
  exact this
 ·rw [List.any_toArray]
  exact iL _ _ r rv key
theorem cD (op:CmpOp) (hu:X.A.units+62<cLine):DOp X ad (compareOp op) (dCmp op):=by
 intro pins s σ H G x y v w u z Q E I hG rx ry ru rz hr
 cases op with
 | Eq=>
  have hr':RK X.K ad G H (if eqOk x y then R.ok (.bl (deq x y)) else .bad) Q E:=hr
  by_cases hc:eqOk x y=true
  ·rw [if_pos hc] at hr'
   obtain⟨p1,p2,p3⟩:=cQ hc
   obtain⟨as,q1⟩:=aV I hG p1 rx ru
   obtain⟨bs,q2⟩:=aV I hG p2 ry rz
   exact SeqAt.compareEq_reads q1 q2 (cM p1) (cM p2) (by rw [cN,cN];omega) (by rw [bZ x y p1 p2];exact⟨.bl _,H,I,rfl,hr'.ok_now hG aG⟩)
  ·rw [if_neg hc] at hr'
   exact hr'.elim
 | NotEq=>
  have hr':RK X.K ad G H (if eqOk x y then R.ok (.bl (!deq x y)) else .bad) Q E:=hr
  by_cases hc:eqOk x y=true
  ·rw [if_pos hc] at hr'
   obtain⟨p1,p2,p3⟩:=cQ hc
   obtain⟨as,q1⟩:=aV I hG p1 rx ru
   obtain⟨bs,q2⟩:=aV I hG p2 ry rz
   exact SeqAt.neOverData X.prog X.w X.A X.xe s u z (toPy x) (toPy y) as bs _ q1 q2 (cM p1) (cM p2) (by rw [cN,cN];omega) (by rw [bZ x y p1 p2];exact⟨.bl _,H,I,rfl,hr'.ok_now hG aG⟩)
  ·rw [if_neg hc] at hr'
   exact hr'.elim
 | Lt=>
  cases x<;>cases y<;>try exact False.elim hr
  unfold Rep at rx ry;subst rx;subst ry
  exact xV pins s σ H _ _ u z Q I ru rz ⟨_,_,rfl,rfl,hr.ok_now hG aG⟩
 | LtE=>
  cases x<;>cases y<;>try exact False.elim hr
  unfold Rep at rx ry;subst rx;subst ry
  exact xW pins s σ H _ _ u z Q I ru rz ⟨_,_,rfl,rfl,hr.ok_now hG aG⟩
 | Gt=>
  cases x<;>cases y<;>try exact False.elim hr
  unfold Rep at rx ry;subst rx;subst ry
  exact xX pins s σ H _ _ u z Q I ru rz ⟨_,_,rfl,rfl,hr.ok_now hG aG⟩
 | GtE=>
  cases x<;>cases y<;>try exact False.elim hr
  unfold Rep at rx ry;subst rx;subst ry
  exact xY pins s σ H _ _ u z Q I ru rz ⟨_,_,rfl,rfl,hr.ok_now hG aG⟩
 | Is=>
  cases y<;>try exact False.elim hr
  ·unfold Rep at ry;subst ry
   exact vE pins s σ H _ _ u z Q I ru rz ⟨rfl,by rw [d9 rx];exact hr.ok_now hG aG⟩
  ·unfold Rep at ry;subst ry
   rename_i k
   cases (show z=Value.bool k from rz)
   exact gU ru ⟨.bl _,H,I,rfl,by rw [fO rx];exact hr.ok_now hG aG⟩
 | IsNot=>
  cases y<;>try exact False.elim hr
  ·unfold Rep at ry;subst ry
   exact qV pins s σ H _ _ u z Q I ru rz ⟨rfl,by rw [d9 rx];exact hr.ok_now hG aG⟩
  ·unfold Rep at ry;subst ry
   rename_i k
   cases (show z=Value.bool k from rz)
   exact d6 ru ⟨.bl _,H,I,rfl,by rw [fO rx];exact hr.ok_now hG aG⟩
 | In=>
  have hr':RK X.K ad G H (match items y with | some ys=>if inOk x ys then R.ok (.bl (ys.any fun y=>deq y x)) else .bad | none=> .bad) Q E:=hr
  cases e:items y with
  | none=>rw [e] at hr';exact hr'.elim
  | some ys=>
   rw [e] at hr'
   by_cases hc:inOk x ys=true
   ·have hr2:RK X.K ad G H (if inOk x ys then R.ok (.bl (ys.any fun y=>deq y x)) else .bad) Q E:=hr'
    rw [if_pos hc] at hr2
    obtain⟨p,vs,rfl,hq,rq⟩:=dH e ry
    cases (show z=Value.ref p from rz)
    rcases hq with hq | hq
    ·obtain⟨its,rv,pt,_⟩:=I.tuple (hG.seqT hq)
     obtain⟨e1,e2,e3,_⟩:=eB hu I hG hc rx ru rq rv
     exact SeqAt.in_tupleAt e1 (show s.heap.IsTuple p its.toArray from pt) e2 (by rw [e3];exact⟨.bl _,H,I,rfl,hr2.ok_now hG aG⟩)
    ·obtain⟨its,rv,pt,_⟩:=I.list (hG.seq hq)
     obtain⟨e1,e2,e3,_⟩:=eB hu I hG hc rx ru rq rv
     exact SeqAt.in_listAt e1 pt.isList e2 (by rw [e3];exact⟨.bl _,H,I,rfl,hr2.ok_now hG aG⟩)
   ·have hr2:RK X.K ad G H (if inOk x ys then R.ok (.bl (ys.any fun y=>deq y x)) else .bad) Q E:=hr'
    rw [if_neg hc] at hr2
    exact hr2.elim
 | NotIn=>
  have hr':RK X.K ad G H (match items y with | some ys=>if inOk x ys then R.ok (.bl (!ys.any fun y=>deq y x)) else .bad | none=> .bad) Q E:=hr
  cases e:items y with
  | none=>rw [e] at hr';exact hr'.elim
  | some ys=>
   rw [e] at hr'
   have hr2:RK X.K ad G H (if inOk x ys then R.ok (.bl (!ys.any fun y=>deq y x)) else .bad) Q E:=hr'
   by_cases hc:inOk x ys=true
   ·rw [if_pos hc] at hr2
    obtain⟨p,vs,rfl,hq,rq⟩:=dH e ry
    cases (show z=Value.ref p from rz)
    rcases hq with hq | hq
    ·obtain⟨its,rv,pt,_⟩:=I.tuple (hG.seqT hq)
     obtain⟨e1,e2,e3,_⟩:=eB hu I hG hc rx ru rq rv
     exact SeqAt.notIn_tupleAt e1 (show s.heap.IsTuple p its.toArray from pt) e2 (by rw [e3];exact⟨.bl _,H,I,rfl,hr2.ok_now hG aG⟩)
    ·obtain⟨its,rv,pt,_⟩:=I.list (hG.seq hq)
     obtain⟨e1,e2,e3,_⟩:=eB hu I hG hc rx ru rq rv
     exact SeqAt.notIn_listAt e1 pt.isList e2 (by rw [e3];exact⟨.bl _,H,I,rfl,hr2.ok_now hG aG⟩)
   ·rw [if_neg hc] at hr2
    exact hr2.elim
end
theorem PE.imp {X:Cx} {e:Expr} {t t':TE} (h:PE X e t) (k: ∀ σ H Q,t' σ H Q→t σ H Q):PE X e t':=fun pins s σ H Q I w=>h pins s σ H Q I (k σ H Q w)
theorem PT.imp {X:Cx} {e:Expr} {t t':TT} (h:PT X e t) (k: ∀ σ H Q,t' σ H Q→t σ H Q):PT X e t':=fun pins s σ H Q I w=>h pins s σ H Q I (k σ H Q w)
theorem PW.imp {X:Cx} {e:Expr} {t t':TT} (h:PW X e t) (k: ∀ σ H Q,t' σ H Q→t σ H Q):PW X e t':=fun wh pins s σ H Q I w=>h wh pins s σ H Q I (k σ H Q w)
theorem PS.imp {X:Cx} {e:Stmt} {t t':TS} (h:PS X e t) (k: ∀ D σ H,t' D σ H→t D σ H):PS X e t':=fun pins s σ H D I w=>h pins s σ H D I (k D σ H w)
theorem PSs.imp {X:Cx} {e:List Stmt} {t t':TS} (h:PSs X e t) (k: ∀ D σ H,t' D σ H→t D σ H):PSs X e t':=fun pins s σ H D I w=>h pins s σ H D I (k D σ H w)
theorem PA.imp {X:Cx} {es:List Expr} {t t':TA} (h:PA X es t) (k: ∀ σ H Q,t' σ H Q→t σ H Q):PA X es t':=fun p pins s σ H Q I w=>h p pins s σ H Q I (k σ H Q w)
section
variable {X:Cx} {ad:Ad} {pins:List (Addr×Obj)} {s:Shared} {σ:St} {H G:Hp} {ρ:Rho} {Q:VK} {E:Nat→Hp→Prop} {pos:Pos} {a b c:Expr} {f g h:F}
theorem eN {k:D→R} {σ:St} {H:Hp} {Q Q':VK} (hG:Same G H) (hS:SL X.K ad G H ρ σ) (hx:XP X ad σ E) (hr:RK X.K ad G H ((f ρ).bind k) Q E)
  (q: ∀ v d G1 H1,Step G H G1 H1→Rep X.K ad G1 d v→RK X.K ad G1 H1 (k d) Q E→Q' v H1):tE X ad f σ H Q':=by
 refine⟨G,ρ,E,hG,hS,hx, ?_⟩
 cases e:f ρ with
 | ok d=>
  rw [e] at hr
  exact fun v G1 H1 st r=>q v d G1 H1 st r (RK.step hr st)
 | ow xs=>
  rw [e] at hr
  intro p vs G1 H1 st n m e' r
  obtain⟨G2,st2,r2⟩:=aO (X:=X) (ad:=ad) st n m e' r
  exact q _ _ G2 H1 st2 r2 (RK.step hr st2)
 | ex c=>
  rw [e] at hr
  exact hr
 | bad=>
  rw [e] at hr
  exact hr
theorem eO (hx:XP X ad σ E) {G1 H1:Hp} (st:Step G H G1 H1) (hS:SL X.K ad G H ρ σ) {Q:VK} (hr:RK X.K ad G1 H1 (f ρ) Q E):tE X ad f σ H1 Q:=⟨G1,ρ,E,st.gh,hS.step st,hx,hr⟩
theorem vM (ha:ME X ad a f):ME X ad (.UnaryOp .Not a pos) (rNot f):=by
 refine PE.imp (uV ha) ?_
 rintro σ H Q ⟨G,ρ,E,hG,hS,hx,hr⟩
 refine eN hG hS hx hr fun v d G1 H1 st r k=> ?_
 cases d<;>try exact False.elim k
 unfold Rep at r;subst r
 exact⟨_,rfl,k.ok_now st.gh aG⟩
theorem vN (ha:ME X ad a f):ME X ad (.UnaryOp .USub a pos) (rNeg f):=by
 refine PE.imp (xT vD ha) ?_
 rintro σ H Q ⟨G,ρ,E,hG,hS,hx,hr⟩
 refine eN hG hS hx hr fun v d G1 H1 st r k=> ?_
 cases d<;>try exact False.elim k
 unfold Rep at r;subst r
 exact⟨_,rfl,k.ok_now st.gh aD⟩
theorem vO {σ:St} {H:Hp} {Q:VK} (h:tE X ad (rAnd f g) σ H Q):tAndV (tE X ad f) (tE X ad g) σ H Q:=by
 obtain⟨G,ρ,E,hG,hS,hx,hr⟩:=h
 refine eN hG hS hx hr fun v d G1 H1 st r k=> ?_
 cases d<;>try exact False.elim k
 rename_i b
 unfold Rep at r;subst r
 refine⟨b,rfl, ?_⟩
 cases b with
 | true=>exact iteT (eO hx st hS k)
 | false=>exact iteF (k.ok_now st.gh aG)
theorem x6 {σ:St} {H:Hp} {Q:VK} (h:tE X ad (rOr f g) σ H Q):tOrV (tE X ad f) (tE X ad g) σ H Q:=by
 obtain⟨G,ρ,E,hG,hS,hx,hr⟩:=h
 refine eN hG hS hx hr fun v d G1 H1 st r k=> ?_
 cases d<;>try exact False.elim k
 rename_i b
 unfold Rep at r;subst r
 refine⟨b,rfl, ?_⟩
 cases b with
 | true=>exact iteT (k.ok_now st.gh aG)
 | false=>exact iteF (eO hx st hS k)
theorem pY {r:List Expr} (ha:ME X ad a f) (hb:ME X ad (.BoolOp .And (b::r) pos) g):ME X ad (.BoolOp .And (a::b::r) pos) (rAnd f g):=PE.imp (uU ha hb) fun _ _ _ h=>vO h
theorem vP {r:List Expr} (ha:ME X ad a f) (hb:ME X ad (.BoolOp .Or (b::r) pos) g):ME X ad (.BoolOp .Or (a::b::r) pos) (rOr f g):=PE.imp (xR ha hb) fun _ _ _ h=>x6 h
theorem pZ {op:BoolOp} (hb:ME X ad b g):ME X ad (.BoolOp op [b] pos) g:=uT hb
theorem x8 {σ:St} {H:Hp} {Q:Bool→Hp→Prop} (h:tT X ad f σ H Q):tE X ad f σ H fun x H1=> ∃ k,x= .bl k∧Q k H1:=by
 obtain⟨G,ρ,E,hG,hS,hx,ht,hr⟩:=h
 exact⟨G,ρ,E,hG,hS,hx,hr⟩
theorem p4 (ha:ME X ad a f) (he: ∀ whole,isTrue a X.env whole=(do let v←whole;standAt a.pos;holding [v] (truthy v))):MT X ad a f:=PT.imp (uR ha he) fun _ _ _ h=>x8 h
theorem bB {r:R} {k:D→R} (h:isTest (r.bind k)):(∃ d,r= .ok d∧isTest (k d))∨(∃ xs,r= .ow xs∧isTest (k (.lst xs)))∨ ∃ c,r= .ex c:=by
 cases r with
 | ok d=>exact .inl ⟨d,rfl,h⟩
 | ow xs=>exact .inr (.inl ⟨xs,rfl,h⟩)
 | ex c=>exact .inr (.inr ⟨c,rfl⟩)
 | bad=>
  rcases h with ⟨_,h⟩ | ⟨_,h⟩<;>cases h
theorem aI: ¬ isTest .bad:=by
 rintro(⟨_,h⟩ | ⟨_,h⟩)<;>cases h
theorem vQ {σ:St} {H:Hp} {Q:Bool→Hp→Prop} (h:tT X ad (rNot f) σ H Q):tNot (tT X ad f) σ H Q:=by
 obtain⟨G,ρ,E,hG,hS,hx,ht,hr⟩:=h
 rcases bB ht with ⟨d,e,ht⟩ | ⟨xs,e,ht⟩ | ⟨c,e⟩
 ·cases d<;>try exact(aI ht).elim
  rename_i b
  refine⟨G,ρ,E,hG,hS,hx, .inl ⟨b,e⟩, ?_⟩
  have hr':RK X.K ad G H ((f ρ).bind fun x=>match x with | .bl b=> .ok (.bl (!b)) | _=> .bad) (fun v H'=> ∃ b,v= .bl b∧Q b H') E:=hr
  rw [e] at hr' ⊢
  intro v G1 H1 st r
  unfold Rep at r;subst r
  obtain⟨b',e',q⟩:=hr' (.bl (!b)) G1 H1 st aG
  cases e'
  exact⟨b,rfl,q⟩
 ·exact(aI ht).elim
 ·refine⟨G,ρ,E,hG,hS,hx, .inr ⟨c,e⟩, ?_⟩
  have hr':RK X.K ad G H ((f ρ).bind fun x=>match x with | .bl b=> .ok (.bl (!b)) | _=> .bad) (fun v H'=> ∃ b,v= .bl b∧Q b H') E:=hr
  rw [e] at hr' ⊢
  exact hr'
theorem p5 (ha:MT X ad a f):MT X ad (.UnaryOp .Not a pos) (rNot f):=PT.imp (uS ha) fun _ _ _ h=>vQ h
theorem vR {σ:St} {H:Hp} {Q:Bool→Hp→Prop} (h:tT X ad (rAnd f g) σ H Q):tAnd (tT X ad f) (tT X ad g) σ H Q:=by
 obtain⟨G,ρ,E,hG,hS,hx,ht,hr⟩:=h
 have hr':RK X.K ad G H ((f ρ).bind fun x=>match x with | .bl true=>g ρ | .bl false=> .ok (.bl false) | _=> .bad) (fun v H'=> ∃ b,v= .bl b∧Q b H') E:=hr
 rcases bB ht with ⟨d,e,ht⟩ | ⟨xs,e,ht⟩ | ⟨c,e⟩
 ·cases d<;>try exact(aI ht).elim
  rename_i b
  refine⟨G,ρ,E,hG,hS,hx, .inl ⟨b,e⟩, ?_⟩
  rw [e] at hr' ⊢
  intro v G1 H1 st r
  unfold Rep at r;subst r
  refine⟨b,rfl, ?_⟩
  cases b with
  | true=>exact iteT ⟨G1,ρ,E,st.gh,hS.step st,hx,ht,RK.step hr' st⟩
  | false=>
   obtain⟨b',e',q⟩:=hr' (.bl false) G1 H1 st aG
   cases e'
   exact iteF q
 ·exact(aI ht).elim
 ·refine⟨G,ρ,E,hG,hS,hx, .inr ⟨c,e⟩, ?_⟩
  rw [e] at hr' ⊢
  exact hr'
theorem x9 {σ:St} {H:Hp} {Q:Bool→Hp→Prop} (h:tT X ad (rOr f g) σ H Q):tOr (tT X ad f) (tT X ad g) σ H Q:=by
 obtain⟨G,ρ,E,hG,hS,hx,ht,hr⟩:=h
 have hr':RK X.K ad G H ((f ρ).bind fun x=>match x with | .bl true=> .ok (.bl true) | .bl false=>g ρ | _=> .bad) (fun v H'=> ∃ b,v= .bl b∧Q b H') E:=hr
 rcases bB ht with ⟨d,e,ht⟩ | ⟨xs,e,ht⟩ | ⟨c,e⟩
 ·cases d<;>try exact(aI ht).elim
  rename_i b
  refine⟨G,ρ,E,hG,hS,hx, .inl ⟨b,e⟩, ?_⟩
  rw [e] at hr' ⊢
  intro v G1 H1 st r
  unfold Rep at r;subst r
  refine⟨b,rfl, ?_⟩
  cases b with
  | true=>
   obtain⟨b',e',q⟩:=hr' (.bl true) G1 H1 st aG
   cases e'
   exact iteT q
  | false=>exact iteF ⟨G1,ρ,E,st.gh,hS.step st,hx,ht,RK.step hr' st⟩
 ·exact(aI ht).elim
 ·refine⟨G,ρ,E,hG,hS,hx, .inr ⟨c,e⟩, ?_⟩
  rw [e] at hr' ⊢
  exact hr'
theorem p6 {r:List Expr} (ha:MT X ad a f) (hb:MW X ad (.BoolOp .And (b::r) pos) g):MW X ad (.BoolOp .And (a::b::r) pos) (rAnd f g):=PW.imp (pw_and ha hb) fun _ _ _ h=>vR h
theorem rJ {r:List Expr} (ha:MT X ad a f) (hb:MW X ad (.BoolOp .Or (b::r) pos) g):MW X ad (.BoolOp .Or (a::b::r) pos) (rOr f g):=PW.imp (pw_or ha hb) fun _ _ _ h=>x9 h
theorem kS {op:BoolOp} (hb:MT X ad b g):MW X ad (.BoolOp op [b] pos) g:=by
 cases op with
 | And=>exact pw_and1 hb
 | Or=>exact pw_or1 hb
theorem vS {op:CmpOp} (hu:X.A.units+62<cLine) (ha:ME X ad a f) (hb:ME X ad b g) (hm:behindInMarks op b=false):MT X ad (.Compare a [op] [b] pos) (rCmp op f g):=by
 intro pins s σ H Q I ⟨G,ρ,E,hG,hS,hx,ht,hr⟩
 refine wpAny_isTrue_Compare1 (L2.thn (pW (cD op hu) ha hb I hG hS hx hr) fun v s1 h1=>L2.thn h1 fun u s2 h2=>L2.thn h2 fun c s3 ⟨x,H1,I1,r1,k,e,q⟩=> ?_) hm
 subst e
 cases r1
 exact wpAny_truthy_bool ⟨H1,I1,q⟩
theorem kT {op:CmpOp} {x y:D}:(∃ k,dCmp op x y= .ok (.bl k))∨dCmp op x y= .bad:=by
 cases op<;>unfold dCmp<;>(repeat' split)<;>first | exact .inr rfl | exact .inl ⟨_,rfl⟩
theorem link {op:CmpOp} {x y:D} {v w:V} {u z:Value} (hu:X.A.units+62<cLine) (I:Inv X pins σ H s) (hG:Same G H) (rx:Rep X.K ad G x v) (ry:Rep X.K ad G y w) (ru:RelV v u) (rz:RelV w z) {k:D→R}
  (hr:RK X.K ad G H ((dCmp op x y).bind k) Q E):wpAny (model X.prog X.w) X.A (compareOp op u z) (fun d s3=> ∃ b G' H',d= .bool b∧Step G H G' H'∧Inv X pins σ H' s3∧RK X.K ad G' H' (k (.bl b)) Q E) X.xe s:=by
 rcases kT (op:=op) (x:=x) (y:=y) with ⟨b,e⟩ | e
 ·rw [e] at hr
  refine L2.thn (cD op hu pins s σ H G x y v w u z (fun q H'=> ∃ G',Step G H G' H'∧q= .bl b) E I hG rx ry ru rz (by rw [e];exact fun q G' H' st r=>⟨G',st,by unfold Rep at r;exact r⟩)) fun d s3 ⟨q,H',I',r',G',st,e1⟩=> ?_
  subst e1
  cases r'
  exact⟨b,G',H',rfl,st,I',RK.step hr st⟩
 ·rw [e] at hr
  exact hr.elim
theorem nY {op op':CmpOp} (hu:X.A.units+62<cLine) (ha:ME X ad a f) (hb:ME X ad b g) (hc:ME X ad c h) (hm:lastMarks [op,op'] [b,c]=false):ME X ad (.Compare a [op,op'] [b,c] pos) (rChain op op' f g h):=by
 intro pins s σ H Q I ⟨G,ρ,E,hG,hS,hx,hr⟩
 refine Compare_chain (L2.thn (ha.thn I hG hS hx hr) fun v s1 ⟨x,d1,G1,H1,I1,r1,st1,q1,k1⟩=>chain_link (L2.thn (hb.thn I1 st1.gh (hS.step st1) hx k1) fun u s2 ⟨y,d2,G2,H2,I2,r2,st2,q2,k2⟩=>
  L2.thn (link hu I2 st2.gh (q1.mono st2.sg) q2 r1 r2 k2) fun d s3 ⟨k,G3,H3,e,st3,I3,k3⟩=> ?_)) hm
 subst e
 refine wpAny_truthy_bool ?_
 cases k with
 | false=>exact ite_ff ⟨.bl false,H3,I3,rfl,k3.ok_now st3.gh aG⟩
 | true=>
  refine ite_tt (chain_last (L2.thn (hc.thn I3 st3.gh (((hS.step st1).step st2).step st3) hx k3) fun w' s4 hz_=> ?_))
  obtain⟨z',d4,G4,H4,I4,r4,st4,q4,k4⟩:=hz_
  exact cD op' hu pins s4 σ H4 G4 d2 d4 y z' u w' Q E I4 st4.gh ((q2.mono st3.sg).mono st4.sg) q4 r2 r4 k4
theorem nZ {op op':CmpOp} (hu:X.A.units+62<cLine) (ha:ME X ad a f) (hb:ME X ad b g) (hc:ME X ad c h) (hm:lastMarks [op,op'] [b,c]=false):MT X ad (.Compare a [op,op'] [b,c] pos) (rChain op op' f g h):=by
 intro pins s σ H Q I ⟨G,ρ,E,hG,hS,hx,ht,hr⟩
 refine isTrue_chain (L2.thn (ha.thn I hG hS hx hr) fun v s1 ⟨x,d1,G1,H1,I1,r1,st1,q1,k1⟩=>test_link (L2.thn (hb.thn I1 st1.gh (hS.step st1) hx k1) fun u s2 ⟨y,d2,G2,H2,I2,r2,st2,q2,k2⟩=>
  L2.thn (link hu I2 st2.gh (q1.mono st2.sg) q2 r1 r2 k2) fun d s3 ⟨k,G3,H3,e,st3,I3,k3⟩=> ?_)) hm
 subst e
 refine wpAny_truthy_bool ?_
 cases k with
 | false=>
  obtain⟨k',e',q'⟩:=k3.ok_now (v:= .bl false) st3.gh aG
  cases e'
  exact ite_ff ⟨H3,I3,q'⟩
 | true=>
  refine ite_tt (test_last (L2.thn (hc.thn I3 st3.gh (((hS.step st1).step st2).step st3) hx k3) fun w' s4 hz_=> ?_))
  obtain⟨z',d4,G4,H4,I4,r4,st4,q4,k4⟩:=hz_
  refine L2.thn (cD op' hu pins s4 σ H4 G4 d2 d4 y z' u w' _ E I4 st4.gh ((q2.mono st3.sg).mono st4.sg) q4 r2 r4 k4) fun d' s5 hz_=> ?_
  obtain⟨z2,H5,I5,r5,k2,e2,q5⟩:=hz_
  subst e2
  cases r5
  exact wpAny_truthy_bool ⟨H5,I5,q5⟩
theorem n4 (hc:MT X ad c h) (ha:ME X ad a f) (hb:ME X ad b g):ME X ad (.IfExp c a b pos) (rIf h f g):=by
 refine PE.imp (nM hc ha hb) ?_
 rintro σ H Q ⟨G,ρ,E,hG,hS,hx,hr⟩
 have hr':RK X.K ad G H ((h ρ).bind fun x=>match x with | .bl true=>f ρ | .bl false=>g ρ | _=> .bad) Q E:=hr
 cases e:h ρ with
 | ok d=>
  rw [e] at hr'
  cases d<;>try exact hr'.elim
  rename_i k
  refine⟨G,ρ,E,hG,hS,hx, .inl ⟨k,e⟩, ?_⟩
  rw [e]
  intro v G1 H1 st r
  unfold Rep at r;subst r
  refine⟨k,rfl, ?_⟩
  cases k with
  | true=>exact iteT (eO hx st hS (RK.step hr' st))
  | false=>exact iteF (eO hx st hS (RK.step hr' st))
 | ow xs=>rw [e] at hr';exact hr'.elim
 | ex k=>
  rw [e] at hr'
  exact⟨G,ρ,E,hG,hS,hx, .inr ⟨k,e⟩,by rw [e];exact hr'⟩
 | bad=>rw [e] at hr';exact hr'.elim
theorem kU:MA X ad [] []:=PA.imp bA fun σ H Q ⟨G,ρ,E,hG,hS,hx,hr⟩=>hr [] G H (Step.refl hG) Reps.nil
theorem eP {es:List Expr} {fs:List F} (ha:ME X ad a f) (hr:MA X ad es fs) (hs:starEach (a::es) X.env=(false,eval a X.env)::starEach es X.env):MA X ad (a::es) (f::fs):=by
 refine PA.imp (aQ ha hr hs) ?_
 rintro σ H Q ⟨G,ρ,E,hG,hS,hx,hr⟩
 have main: ∀ d,AK X.K ad G H ((args fs ρ).cons d) Q E→ ∀ v G1 H1,Step G H G1 H1→Rep X.K ad G1 d v→tA X ad fs σ H1 fun xs H2=>Q (v::xs) H2:=fun d hk v G1 H1 st r=>by
  refine⟨G1,ρ,E,st.gh,hS.step st,hx, ?_⟩
  cases e:args fs ρ with
  | ok ds=>rw [e] at hk;exact fun vs G2 H2 st2 r2=>hk (v::vs) G2 H2 (st.trans st2) (Reps.cons (r.mono st2.sg) r2)
  | ex c=>rw [e] at hk;exact fun G2 H2 st2=>hk G2 H2 (st.trans st2)
  | bad=>rw [e] at hk;exact hk
 refine⟨G,ρ,E,hG,hS,hx, ?_⟩
 unfold args at hr
 cases e:f ρ with
 | ok d=>rw [e] at hr;exact fun v G1 H1 st r=>main d hr v G1 H1 st r
 | ow xs=>
  rw [e] at hr
  intro p vs G1 H1 st n m e' r
  obtain⟨G2,st2,r2⟩:=aO (X:=X) (ad:=ad) st n m e' r
  exact main _ hr _ G2 H1 st2 r2
 | ex c=>rw [e] at hr;exact hr
 | bad=>rw [e] at hr;exact hr
theorem eQ {fs:List F} {ρ:Rho} {ds:List D} (h:args fs ρ= .ok ds):ds.length=fs.length:=by
 induction fs generalizing ds with
 | nil=>cases h;rfl
 | cons f fs ih=>
  unfold args at h
  cases e:f ρ with
  | ok d=>
   rw [e] at h
   cases e2:args fs ρ with
   | ok r=>rw [e2] at h;cases h;simp [ih e2]
   | ex c=>rw [e2] at h;cases h
   | bad=>rw [e2] at h;cases h
  | ow d=>
   rw [e] at h
   cases e2:args fs ρ with
   | ok r=>rw [e2] at h;cases h;simp [ih e2]
   | ex c=>rw [e2] at h;cases h
   | bad=>rw [e2] at h;cases h
  | ex c=>rw [e] at h;cases h
  | bad=>rw [e] at h;cases h
theorem gW {fs:List F} {k:List D→R} {σ:St} {H:Hp} {Q:VK} {Q':List V→Hp→Prop} (hG:Same G H) (hS:SL X.K ad G H ρ σ) (hx:XP X ad σ E) (hr:RK X.K ad G H (rAll fs ρ k) Q E)
  (q: ∀ vs ds G1 H1,Step G H G1 H1→Reps X.K ad G1 ds vs→ds.length=fs.length→RK X.K ad G1 H1 (k ds) Q E→Q' vs H1):tA X ad fs σ H Q':=by
 refine⟨G,ρ,E,hG,hS,hx, ?_⟩
 unfold rAll at hr
 cases e:args fs ρ with
 | ok ds=>rw [e] at hr;exact fun vs G1 H1 st r=>q vs ds G1 H1 st r (eQ e) (RK.step hr st)
 | ex c=>rw [e] at hr;exact hr
 | bad=>rw [e] at hr;exact hr
theorem vT {es:List Expr} {fs:List F} {j:Nat} (ha:MA X ad es fs) (hl:fs.length≤1000):ME X ad (.Tuple es j pos) (rTup fs):=by
 refine PE.imp (vG ha) ?_
 rintro σ H Q ⟨G,ρ,E,hG,hS,hx,hr⟩
 refine⟨G,ρ,E,hG,hS,hx, ?_⟩
 have hr':RK X.K ad G H ((args fs ρ).then fun xs=> .ok (.tup xs)) Q E:=hr
 cases e:args fs ρ with
 | ok ds=>
  rw [e] at hr'
  intro vs G1 H1 st r
  refine⟨?_,fun p hp=>(RK.step hr' st).tup_new st.gh r hp⟩
  have:=r.length
  rw [this,eQ e]
  exact Nat.le_trans hl (by decide)
 | ex c=>rw [e] at hr';exact hr'
 | bad=>rw [e] at hr';exact hr'
theorem p7 {es:List Expr} {fs:List F} (ha:MA X ad es fs) (hl:fs.length≤1000):ME X ad (.List es pos) (rLst fs):=by
 refine PE.imp (vH ha) ?_
 rintro σ H Q ⟨G,ρ,E,hG,hS,hx,hr⟩
 refine⟨G,ρ,E,hG,hS,hx, ?_⟩
 have hr':RK X.K ad G H ((args fs ρ).then fun xs=> .ow xs) Q E:=hr
 cases e:args fs ρ with
 | ok ds=>
  rw [e] at hr'
  intro vs G1 H1 st r
  refine⟨?_,fun p hp=>(RK.step hr' st).ow_new st.gh r hp⟩
  have:=r.length
  rw [this,eQ e]
  exact Nat.le_trans hl (by decide)
 | ex c=>rw [e] at hr';exact hr'
 | bad=>rw [e] at hr';exact hr'
def Seq (X:Cx) (ad:Ad) (G H:Hp) (x:D) (v:V):Prop:=Rep X.K ad G x v∨ ∃ a vs ds,x= .lst ds∧v= .ref a∧G a=none∧H a=some (.lst vs)∧Reps X.K ad G ds vs
theorem Seq.step {G1 H1:Hp} {x:D} {v:V} (q:Seq X ad G H x v) (st:Step G H G1 H1):Seq X ad G1 H1 x v:=by
 rcases q with q | ⟨a,vs,ds,e1,e2,h1,h2,h3⟩
 ·exact .inl (q.mono st.sg)
 ·refine .inr ⟨a,vs,ds,e1,e2, ?_,st.sh _ _ h2,h3.mono st.sg⟩
  cases z:G1 a with
  | none=>rfl
  | some o=>
   have:=st.nw a h1 (by rw [z];exact fun z=>nomatch z)
   rw [h2] at this
   cases this
theorem Seq.items {x:D} {v:V} {ds:List D} (q:Seq X ad G H x v) (hG:Same G H) (e:items x=some ds): ∃ a vs,v= .ref a∧(x= .tup ds∧SqT X.K H a vs∨x= .lst ds∧SqL X.K H a vs)∧Reps X.K ad G ds vs:=by
 rcases q with q | ⟨a,vs,ds',e1,e2,h1,h2,h3⟩
 ·cases x with
  | tup _=>cases e;unfold Rep at q;obtain⟨a,vs,h1,h2,h3⟩:=q;exact⟨a,vs,h1, .inl ⟨rfl,hG.seqT h2⟩,h3⟩
  | lst _=>cases e;unfold Rep at q;obtain⟨a,vs,h1,h2,h3⟩:=q;exact⟨a,vs,h1, .inr ⟨rfl,hG.seq h2⟩,h3⟩
  | _=>cases e
 ·subst e1
  cases e
  exact⟨a,vs,e2, .inr ⟨rfl,SqL.of h2⟩,h3⟩
theorem iM (n:Nat) (i:Int):ixD n i=L2.ixN n i:=rfl
theorem vU (ha:MLk X ad a f) (hb:ME X ad b g) (hs:PlainIx b):ME X ad (.Subscript a b pos) (rIx f g):=by
 intro pins s σ H Q I ⟨G,ρ,E,hG,hS,hx,hr⟩
 refine Subscript_ (L2.thn (ha pins s σ H G ρ _ Q E I hG hS hx hr) fun v s1 hz_=> ?_)
 obtain⟨x,d1,G1,H1,I1,r1,st1,q1,k1⟩:=hz_
 refine L2.thn (hb.thn I1 st1.gh (hS.step st1) hx k1) fun u s2 hz_=> ?_
 obtain⟨y,d2,G2,H2,I2,r2,st2,q2,k2⟩:=hz_
 have q1':Seq X ad G2 H2 d1 x:=Seq.step (X:=X) (ad:=ad) q1 st2
 unfold dIx at k2
 cases e:items d1 with
 | none=>rw [e] at k2;exact k2.elim
 | some ds=>
  rw [e] at k2
  cases d2<;>try exact k2.elim
  rename_i i
  unfold Rep at q2;subst q2
  obtain⟨p,vs,rfl,hq,rq⟩:=q1'.items st2.gh e
  have hr2:RK X.K ad G2 H2 (match(ixD ds.length i).bind fun j=>ds[j]? with | some d=> .ok d | none=> .bad) Q E:=k2
  cases e3:(ixD ds.length i).bind fun j=>ds[j]? with
  | none=>rw [e3] at hr2;exact hr2.elim
  | some d=>
   rw [e3] at hr2
   obtain⟨j,e4,e5⟩:=zBd e3
   obtain⟨w,e6,r6⟩:=rq.get e5
   have hat:atI vs i=some w:=by
    unfold atI
    rw [rq.length, ←iM,e4]
    exact e6
   rcases hq with ⟨_,hq⟩ | ⟨_,hq⟩
   ·exact vK a b pins s2 σ H2 _ _ v u Q I2 r1 r2 ⟨p,vs,i,w,rfl,rfl,hq,hat,hr2.ok_now st2.gh r6⟩ (hs _ _)
   ·exact qY a b pins s2 σ H2 _ _ v u Q I2 r1 r2 ⟨p,vs,i,w,rfl,rfl,hq,hat,hr2.ok_now st2.gh r6⟩ (hs _ _)
theorem bL {prog:Program} {w:World} {A:Around} {Ex:Value→Shared→Prop} {s:Shared} {t sl:Addr} {items:Array Value} {vl vu:Value} {lo hi:Option Int} {Q:Value→Shared→Prop} (ht:IsTup s.heap t items) (hs:s.heap.IsSliceOf sl vl vu .none)
  (pl:IsPart vl lo) (pu:IsPart vu hi) (hw:HT.sIx items.size 0 lo=0∧HT.sIx items.size items.size hi=items.size) (h:Q (.ref t) s) (hsz:items.size≤sizeLine):wpAny (model prog w) A (getItem (.ref t) (.ref sl)) Q Ex s:=by
 obtain⟨os,hos,hcs,hds⟩:=id hs
 have ts:s.TypeIs (.ref sl) "slice":=⟨os,hos,hcs⟩
 unfold getItem
 try with_reducible refine wpAny_holding ?_
 first | refine wpAny_bind (wpAny_pure ?_) | skip
 refine wpAny_bind (wpAny_sequenceKey ht.typeIs (by decide) ?_)
 refine wpAny_bind (wpAny_callSpecial?_slot (name:=Str.ofString "__getitem__") ht.typeIs PyProof.Rows.slot_tuple_getitem
  (wpAny_call_entry PyProof.Rows.slot_tuple_getitem ht.typeIs entry_tuple_getitem ?_ (args_tuple_getitem _ _)))
 show wpAny _ _ (Builtin.Tuple.tupleItemsOf (.ref t) >>= _) _ _ s
 refine wpAny_bind (tupleItemsOf_ ht ?_)
 refine wpAny_bind (wpAny_typeOf ts ?_)
 rw [if_pos (by decide)]
 refine wpAny_bind (HT.sliceApplied_gen hs pl pu ?_)
 have yes:(((HT.sIx items.size 0 lo:Nat):Int)==0&&(1:Int)==1&&(HT.sIx items.size items.size hi - HT.sIx items.size 0 lo)==items.size)=true:=by
  rw [hw.1,hw.2]
  simp
 show wpAny _ _ (if(((HT.sIx items.size 0 lo:Nat):Int)==0&&(1:Int)==1&&(HT.sIx items.size items.size hi - HT.sIx items.size 0 lo)==items.size)=true then _ else _) _ _ s
 rw [if_pos yes]
 unfold Builtin.Tuple.tupleIsExact
 refine wpAny_bind (m:=(do let z←typeOf (.ref t);return z== .type "tuple")) (wpAny_bind (wpAny_typeOf ht.typeIs (wpAny_pure ?_)))
 rw [if_pos (by decide)]
 first
  | exact wpAny_bind (wpAny_rule (wpAny_bind (wpAny_pure (wpAny_pure ⟨_,rfl,wpAny_pure h⟩))))
  | exact wpAny_bind (wpAny_rule (wpAny_pure ⟨_,rfl,wpAny_pure h⟩))
  | exact wpAny_bind (wpAny_bind (wpAny_rule (wpAny_pure (wpAny_pure ⟨_,rfl,wpAny_pure h⟩))))
  | skip
theorem iN: ∀ {ds:List D} {vs:List V} (lo hi:Option Int),Reps X.K ad G ds vs→Reps X.K ad G (cutD ds lo hi) (cutV vs lo hi):=by
 intro ds vs lo hi r
 unfold cutD cutV
 rw [r.length]
 exact(r.drop _).take _
theorem vV:SlR X (fun x lo hi H Q=> ∃ a vs,x= .ref a∧((SqT X.K H a vs∧(HT.sIx vs.length 0 lo=0∧HT.sIx vs.length vs.length hi=vs.length→Q (.ref a) H)∧ ∀ p,H p=none→Q (.ref p) (upd H p (.tup (cutV vs lo hi))))∨
  (SqL X.K H a vs∧ ∀ p,H p=none→Q (.ref p) (upd H p (.lst (cutV vs lo hi)))))):=by
 intro pins s σ H x v vl vu lo hi sl Q I rx hs pl pu q
 obtain⟨a,vs,rfl,⟨hq,q1,q2⟩ | ⟨hq,q⟩⟩:=q
 ·by_cases hw:HT.sIx vs.length 0 lo=0∧HT.sIx vs.length vs.length hi=vs.length
  ·cases rx
   obtain⟨its,r,ht,hz⟩:=I.tuple hq
   have hlen:its.toArray.size=vs.length:=by rw [List.size_toArray];exact r.length.symm
   refine⟨"tuple",_,PyProof.Rows.slot_tuple_getitem.lookup,ht.typeIs, ?_⟩
   refine bL ht hs pl pu (by rw [hlen];exact hw) ⟨.ref a,H,I,rfl,q1 hw⟩ (by rw [hlen];exact hz)
  ·exact vJ pins s σ H _ v vl vu lo hi sl Q I rx hs pl pu ⟨a,vs,rfl,hq,hw,q2⟩
 ·exact qZ pins s σ H _ v vl vu lo hi sl Q I rx hs pl pu ⟨a,vs,rfl,hq,q⟩
theorem iO {x:D} {v:V} {lo hi:Option Int} (q:Seq X ad G H x v) (hG:Same G H) (hr:RK X.K ad G H (dCut x lo hi) Q E):
  ∃ a vs,v= .ref a∧((SqT X.K H a vs∧(HT.sIx vs.length 0 lo=0∧HT.sIx vs.length vs.length hi=vs.length→Q (.ref a) H)∧ ∀ p,H p=none→Q (.ref p) (upd H p (.tup (cutV vs lo hi))))∨(SqL X.K H a vs∧ ∀ p,H p=none→Q (.ref p) (upd H p (.lst (cutV vs lo hi))))):=by
 cases x with
 | tup ds=>
  rcases q with q | ⟨_,_,_,z,_⟩
  ·unfold Rep at q
   obtain⟨a,vs,rfl,hq,rq⟩:=q
   refine⟨a,vs,rfl, .inl ⟨hG.seqT hq,fun e=> ?_,fun p hp=>RK.tup_new (xs:=cutD ds lo hi) hr hG (iN lo hi rq) hp⟩⟩
   refine RK.ok_now (d:= .tup (cutD ds lo hi)) hr hG ?_
   have e':cutD ds lo hi=ds:=by
    rw [rq.length] at e
    have e1:cutIx ds.length 0 lo=0:=e.1
    have e2:cutIx ds.length ds.length hi=ds.length:=e.2
    unfold cutD
    rw [e1,e2]
    simp
   rw [e']
   unfold Rep
   exact⟨a,vs,rfl,hq,rq⟩
  ·cases z
 | lst ds=>
  obtain⟨a,vs,rfl,hq,rq⟩:=q.items hG (rfl:items (.lst ds)=some ds)
  rcases hq with ⟨z,_⟩ | ⟨_,hq⟩
  ·cases z
  ·exact⟨a,vs,rfl, .inr ⟨hq,fun p hp=>RK.ow_new (xs:=cutD ds lo hi) hr hG (iN lo hi rq) hp⟩⟩
 | _=>exact False.elim hr
theorem vW {l u:Option Expr} {fl fu:Option F} {p2:Pos} (ha:MLk X ad a f) (hl:match l,fl with | none,none=>True | some e,some k=>ME X ad e k | _,_=>False) (hu:match u,fu with | none,none=>True | some e,some k=>ME X ad e k | _,_=>False):
  ME X ad (.Subscript a (.Slice l u none p2) pos) (rCut f fl fu):=by
 intro pins s σ H Q I ⟨G,ρ,E,hG,hS,hx,hr⟩
 -- the value first
 have key: ∀ (k:D→R),RK X.K ad G H ((f ρ).bind k) Q E→(∀ (pins:List (Addr×Obj)) (s1:Shared) (x:V) (d:D) (G1 H1:Hp),Inv X pins σ H1 s1→Step G H G1 H1→Seq X ad G1 H1 d x→RK X.K ad G1 H1 (k d) Q E→
   wpAny (model X.prog X.w) X.A (evalPart l X.env) (fun vl s2=>wpAny (model X.prog X.w) X.A (evalPart u X.env) (fun vu s3=> ∃ lo hi H3,Inv X pins σ H3 s3∧IsPart vl lo∧IsPart vu hi∧
    ∃ a vs,x= .ref a∧((SqT X.K H3 a vs∧(HT.sIx vs.length 0 lo=0∧HT.sIx vs.length vs.length hi=vs.length→Q (.ref a) H3)∧ ∀ p,H3 p=none→Q (.ref p) (upd H3 p (.tup (cutV vs lo hi))))∨(SqL X.K H3 a vs∧ ∀ p,H3 p=none→Q (.ref p) (upd H3 p (.lst (cutV vs lo hi)))))) X.xe s2) X.xe s1)→
   wpAny (model X.prog X.w) X.A (eval (.Subscript a (.Slice l u none p2) pos) X.env) (EP X pins σ Q) X.xe s:=fun k hk go=>by
  refine Subscript_ (L2.thn (ha pins s σ H G ρ k Q E I hG hS hx hk) fun v s1 hz_=> ?_)
  obtain⟨x,d1,G1,H1,I1,r1,st1,q1,k1⟩:=hz_
  refine wpAny_Slice (L2.thn (go pins s1 x d1 G1 H1 I1 st1 q1 k1) fun vl s2 h2=>L2.thn h2 fun vu s3 hz_=> ?_)
  obtain⟨lo,hi,H3,I3,pl,pu,q3⟩:=hz_
  rw [evalPart_none]
  refine wpAny_pure ?_
  have I4:Inv X pins σ H3 { s3 with heap:=s3.heap.push { cls:= .type "slice",data:= .fields #[vl,vu, .none] } }:=I3.kept (t':=s3.toks) fun b ob q=>Heap.get?_push_of_some _ q
  obtain⟨T,id,hT,ht,hg⟩:=vV pins { s3 with heap:=s3.heap.push { cls:= .type "slice",data:= .fields #[vl,vu, .none] } } σ H3 x v vl vu lo hi s3.heap.objs.size Q I4 r1 (Heap.IsSliceOf.new ..) pl pu q3
  show wpAny (model X.prog X.w) X.A (subscriptTail a (.Slice l u none p2) v (.ref s3.heap.objs.size)) (EP X pins σ Q) X.xe { s3 with heap:=s3.heap.push { cls:= .type "slice",data:= .fields #[vl,vu, .none] } }
  exact tail_any (ops:=[.ref s3.heap.objs.size,v]) ht hT hg (by with_unfolding_all rfl)
 unfold rCut at hr
 refine key _ hr fun pins s1 x d G1 H1 I1 st1 q1 k1=> ?_
 cases l with
 | none=>
  cases fl with
  | some _=>exact hl.elim
  | none=>
   rw [evalPart_none]
   refine wpAny_pure ?_
   cases u with
   | none=>
    cases fu with
    | some _=>exact hu.elim
    | none=>
     rw [evalPart_none]
     exact wpAny_pure ⟨none,none,H1,I1, .none, .none,iO q1 st1.gh k1⟩
   | some e=>
    cases fu with
    | none=>exact hu.elim
    | some k=>
     rw [evalPart_some]
     refine L2.thn (ME.thn hu I1 st1.gh (hS.step st1) hx k1) fun vu s2 hz_=> ?_
     obtain⟨y,d2,G2,H2,I2,r2,st2,q2,k2⟩:=hz_
     cases d2<;>try exact False.elim k2
     rename_i j
     unfold Rep at q2;subst q2
     obtain⟨t,rfl⟩:=r2
     exact⟨none,some j,H2,I2, .none, .int j t,iO (Seq.step q1 st2) st2.gh k2⟩
 | some e=>
  cases fl with
  | none=>exact hl.elim
  | some k=>
   cases u with
   | none=>
    cases fu with
    | some _=>exact hu.elim
    | none=>
     rw [evalPart_some]
     refine L2.thn (ME.thn hl I1 st1.gh (hS.step st1) hx k1) fun vu s2 hz_=> ?_
     obtain⟨y,d2,G2,H2,I2,r2,st2,q2,k2⟩:=hz_
     cases d2<;>try exact False.elim k2
     rename_i j
     unfold Rep at q2;subst q2
     obtain⟨t,rfl⟩:=r2
     rw [evalPart_none]
     exact wpAny_pure ⟨some j,none,H2,I2, .int j t, .none,iO (Seq.step q1 st2) st2.gh k2⟩
   | some e'=>
    cases fu with
    | none=>exact hu.elim
    | some k'=>
     rw [evalPart_some]
     refine L2.thn (ME.thn hl I1 st1.gh (hS.step st1) hx k1) fun vu s2 hz_=> ?_
     obtain⟨y,d2,G2,H2,I2,r2,st2,q2,k2⟩:=hz_
     cases d2<;>try exact False.elim k2
     rename_i j
     unfold Rep at q2;subst q2
     obtain⟨t,rfl⟩:=r2
     rw [evalPart_some]
     refine L2.thn (ME.thn hu I2 st2.gh ((hS.step st1).step st2) hx k2) fun vu s3 hz_=> ?_
     obtain⟨y3,d3,G3,H3,I3,r3,st3,q3,k3⟩:=hz_
     cases d3<;>try exact False.elim k3
     rename_i j'
     unfold Rep at q3;subst q3
     obtain⟨t',rfl⟩:=r3
     exact⟨some j,some j',H3,I3, .int j t, .int j' t',iO (Seq.step (Seq.step q1 st2) st3) st3.gh k3⟩
end
section
variable {X:Cx} {ad:Ad} {pins:List (Addr×Obj)} {s:Shared} {σ:St} {H G:Hp} {ρ:Rho} {Q:VK} {E:Nat→Hp→Prop} {pos p:Pos} {a b c:Expr} {f g h:F}
theorem RK.impE {K:PySem.W.Frag} {r:R} {E E':Nat→Hp→Prop} (h:RK K ad G H r Q E) (k: ∀ c H',E c H'→E' c H'):RK K ad G H r Q E':=by
 cases r with
 | ok d=>exact h
 | ow xs=>exact h
 | ex c=>exact fun G' H' st=>k c H' (h G' H' st)
 | bad=>exact h
def LK (X:Cx) (ad:Ad) (G H:Hp) (r:R) (Q:VK) (E:Nat→Hp→Prop):Prop:=match r with
 | .ok d=> ∀ v G' H',Step G H G' H'→Seq X ad G' H' d v→Q v H'
 | .ow xs=> ∀ p vs G' H',Step G H G' H'→H p=none→G' p=none→H' p=some (.lst vs)→Reps X.K ad G' xs vs→Q (.ref p) H'
 | .ex c=> ∀ G' H',Step G H G' H'→E c H'
 | .bad=>False
noncomputable def tL (X:Cx) (ad:Ad) (f:F):TE:=fun σ H Q=> ∃ G ρ E,Same G H∧SL X.K ad G H ρ σ∧XP X ad σ E∧LK X ad G H (f ρ) Q E
abbrev ML (X:Cx) (ad:Ad) (e:Expr) (f:F):Prop:=PE X e (tL X ad f)
theorem LK.rk {r:R} (h:LK X ad G H r Q E):RK X.K ad G H r Q E:=by
 cases r with
 | ok d=>exact fun v G' H' st q=>h v G' H' st (.inl q)
 | ow xs=>exact h
 | ex c=>exact h
 | bad=>exact h
theorem ME.ml (ha:ME X ad a f):ML X ad a f:=PE.imp ha fun σ H Q ⟨G,ρ,E,hG,hS,hx,hr⟩=>⟨G,ρ,E,hG,hS,hx,hr.rk⟩
theorem gX {i:Nat} {x:Str} (hN:X.N[i]? =some x) (hv:Vis X.env.scope x) (hd:(x==("__debug__":Str))=false) (hcd:(x==("__classdict__":Str))=false):ML X ad (.Name x pos) (rLook i):=by
 intro pins s σ H Q I ⟨G,ρ,E,hG,hS,hx,hr⟩
 unfold rLook at hr
 cases e:ρ[i]? with
 | none=>
  rw [e] at hr
  exact hr.elim
 | some sl=>
  rw [e] at hr
  cases sl with
  | no=>exact hr.elim
  | dc kvs=>exact hr.elim
  | sd kvs=>exact hr.elim
  | ow xs=>
   obtain⟨p,vs,h1,h2,h3,h4⟩:=hS.ow e
   exact aS hN hv hd hcd pins s σ H Q I ⟨.ref p,h1,hr (.ref p) G H (Step.refl hG) (.inr ⟨p,vs,xs,rfl,rfl,h2,h3,h4⟩)⟩
  | sh d=>
   obtain⟨w,h1,h2⟩:=hS.sh e
   exact aS hN hv hd hcd pins s σ H Q I ⟨w,h1,hr w G H (Step.refl hG) (.inl h2)⟩
theorem ML.lk (ha:ML X ad a f):MLk X ad a f:=by
 intro pins s σ H G ρ k Q E I hG hS hx hr
 cases e:f ρ with
 | ok d=>
  rw [e] at hr
  refine L2.thn (ha pins s σ H (fun v H1=> ∃ G1,Step G H G1 H1∧Seq X ad G1 H1 d v) I ⟨G,ρ,E,hG,hS,hx,by rw [e];exact fun v G1 H1 st q=>⟨G1,st,q⟩⟩) fun u s1 ⟨v,H1,I1,r1,G1,st,q⟩=> ?_
  exact⟨v,d,G1,H1,I1,r1,st,q,RK.step hr st⟩
 | ow xs=>
  rw [e] at hr
  refine L2.thn (ha pins s σ H (fun v H1=> ∃ G1,Step G H G1 H1∧Rep X.K ad G1 (.lst xs) v) I ⟨G,ρ,E,hG,hS,hx,by rw [e];exact fun p vs G1 H1 st n m e' q=>aO st n m e' q⟩) fun u s1 ⟨v,H1,I1,r1,G1,st,q⟩=> ?_
  exact⟨v, .lst xs,G1,H1,I1,r1,st, .inl q,RK.step hr st⟩
 | ex c=>
  rw [e] at hr
  refine L2.thn (ha pins s σ H (fun v H1=>False) I ⟨G,ρ,E,hG,hS,hx,by rw [e];exact hr⟩) fun u s1 ⟨v,H1,I1,r1,q⟩=>q.elim
 | bad=>
  rw [e] at hr
  exact False.elim hr
theorem gY {k:D→R} {σ:St} {H:Hp} {Q Q':VK} (hG:Same G H) (hS:SL X.K ad G H ρ σ) (hx:XP X ad σ E) (hr:RK X.K ad G H ((f ρ).bind k) Q E)
  (q: ∀ v d G1 H1,Step G H G1 H1→Seq X ad G1 H1 d v→RK X.K ad G1 H1 (k d) Q E→Q' v H1):tL X ad f σ H Q':=by
 refine⟨G,ρ,E,hG,hS,hx, ?_⟩
 cases e:f ρ with
 | ok d=>
  rw [e] at hr
  exact fun v G1 H1 st r=>q v d G1 H1 st r (RK.step hr st)
 | ow xs=>
  rw [e] at hr
  intro p vs G1 H1 st n m e' r
  obtain⟨G2,st2,r2⟩:=aO (X:=X) (ad:=ad) st n m e' r
  exact q _ _ G2 H1 st2 (.inl r2) (RK.step hr st2)
 | ex c=>
  rw [e] at hr
  exact hr
 | bad=>
  rw [e] at hr
  exact hr
theorem cR {k:List D→R}:rAll [f] ρ k=(f ρ).bind fun x=>k [x]:=by
 unfold rAll args
 cases f ρ<;>rfl
def BOp (X:Cx) (ad:Ad) (fv:Value) (r:Fn):Prop:=
 ∀ (pins:List (Addr×Obj)) (s:Shared) (σ:St) (H G:Hp) (x:D) (v:V) (u:Value) (Q:VK) (E:Nat→Hp→Prop),Inv X pins σ H s→Same G H→Seq X ad G H x v→RelV v u→RK X.K ad G H (r [x]) Q E→
  wpAny (model X.prog X.w) X.A (call fv [u]) (EP X pins σ Q) X.xe s
theorem dI {x:Str} {id:String} {r:Fn} (ho:BOp X ad (.builtin id) r) (hg:L2.Gl X x) (hm:X.mg x=none) (hv:bootBuiltins x=some (.builtin id)) (ha:ML X ad a f) (hn:x≠"__name__") (hdb:(x==("__debug__":Str))=false)
  (he:starEach [a] X.env=(false,eval a X.env)::starEach [] X.env):ME X ad (.Call (.Name x p) [a] [] pos) (rCall r [f]):=by
 intro pins s σ H Q I ⟨G,ρ,E,hG,hS,hx,hr⟩
 refine wpAny_Call_Name_kw (bN I hg hm hv ?_ hn hdb)
 unfold rCall at hr
 rw [cR] at hr
 refine PyProof.Rows.callWith_builtin1 (L2.thn (aQ ha bA he pos pins s σ H (fun vs H1=> ∃ v d G1,vs=[v]∧Step G H G1 H1∧Seq X ad G1 H1 d v∧RK X.K ad G1 H1 (r [d]) Q E) I ?_) fun us s1 ⟨vs,H1,I1,r1,v,d,G1,e1,st,q,k⟩=> ?_) he rfl
 ·exact gY hG hS hx hr fun v d G1 H1 st q k=>⟨v,d,G1,rfl,st,q,k⟩
 ·subst e1
  obtain⟨u,rfl,ru⟩:=vals1 r1
  exact ho pins s1 σ H1 G1 d v u Q E I1 st.gh q ru k
theorem kW {x:Str} {T:String} {r:Fn} (ho:BOp X ad (.type T) r) (hg:L2.Gl X x) (hm:X.mg x=none) (hv:bootBuiltins x=some (.type T)) (ha:ML X ad a f) (hn:x≠"__name__") (hdb:(x==("__debug__":Str))=false)
  (he:starEach [a] X.env=(false,eval a X.env)::starEach [] X.env):ME X ad (.Call (.Name x p) [a] [] pos) (rCall r [f]):=by
 intro pins s σ H Q I ⟨G,ρ,E,hG,hS,hx,hr⟩
 refine wpAny_Call_Name_kw (bN I hg hm hv ?_ hn hdb)
 unfold rCall at hr
 rw [cR] at hr
 refine PyProof.Rows.callWith_type1 (L2.thn (aQ ha bA he pos pins s σ H (fun vs H1=> ∃ v d G1,vs=[v]∧Step G H G1 H1∧Seq X ad G1 H1 d v∧RK X.K ad G1 H1 (r [d]) Q E) I ?_) fun us s1 ⟨vs,H1,I1,r1,v,d,G1,e1,st,q,k⟩=> ?_) he rfl
 ·exact gY hG hS hx hr fun v d G1 H1 st q k=>⟨v,d,G1,rfl,st,q,k⟩
 ·subst e1
  obtain⟨u,rfl,ru⟩:=vals1 r1
  exact ho pins s1 σ H1 G1 d v u Q E I1 st.gh q ru k
theorem rL:BOp X ad (.builtin "len") dLen:=by
 intro pins s σ H G x v u Q E I hG q ru hr
 have hr':RK X.K ad G H (match items x with | some xs=> .ok (.int xs.length) | none=> .bad) Q E:=hr
 cases e:items x with
 | none=>rw [e] at hr';exact hr'.elim
 | some ds=>
  rw [e] at hr'
  obtain⟨p,vs,rfl,hq,rq⟩:=q.items hG e
  have hq':SqL X.K H p vs∨SqT X.K H p vs:=hq.elim (fun z=> .inr z.2) fun z=> .inl z.2
  refine fG pins s σ H [.ref p] [u] Q I (.cons ru .nil) ⟨p,vs,rfl,hq', ?_⟩
  rw [rq.length]
  exact hr'.ok_now hG aD
theorem rM:BOp X ad (.type "int") dInt:=by
 intro pins s σ H G x v u Q E I hG q ru hr
 cases x<;>try exact False.elim hr
 ·rcases q with q | ⟨_,_,_,z,_⟩
  ·unfold Rep at q;subst q
   exact fA pins s σ H _ [u] Q I (.cons ru .nil) (.inr ⟨_,rfl,hr.ok_now hG aD⟩)
  ·cases z
 ·rcases q with q | ⟨_,_,_,z,_⟩
  ·unfold Rep at q;subst q
   exact fA pins s σ H _ [u] Q I (.cons ru .nil) (.inl ⟨_,rfl,hr.ok_now hG aD⟩)
  ·cases z
theorem n5:BOp X ad (.type "list") dList:=by
 intro pins s σ H G x v u Q E I hG q ru hr
 have hr':RK X.K ad G H (match items x with | some xs=> .ow xs | none=> .bad) Q E:=hr
 cases e:items x with
 | none=>rw [e] at hr';exact hr'.elim
 | some ds=>
  rw [e] at hr'
  obtain⟨p,vs,rfl,hq,rq⟩:=q.items hG e
  have hq':SqL X.K H p vs∨SqT X.K H p vs:=hq.elim (fun z=> .inr z.2) fun z=> .inl z.2
  exact fH pins s σ H [.ref p] [u] Q I (.cons ru .nil) ⟨p,vs,rfl,hq',fun l hl=>hr'.ow_new hG rq hl⟩
theorem kX:BOp X ad (.type "tuple") dTuple:=by
 intro pins s σ H G x v u Q E I hG q ru hr
 have hr':RK X.K ad G H (match items x with | some xs=> .ok (.tup xs) | none=> .bad) Q E:=hr
 cases e:items x with
 | none=>rw [e] at hr';exact hr'.elim
 | some ds=>
  rw [e] at hr'
  obtain⟨p,vs,rfl,hq,rq⟩:=q.items hG e
  rcases hq with ⟨e2,hq⟩ | ⟨e2,hq⟩
  ·refine bP pins s σ H [.ref p] [u] Q I (.cons ru .nil) ⟨p,vs,rfl, .inr ⟨hq,hr'.ok_now hG ?_⟩⟩
   rcases q with q | ⟨_,_,_,z,_⟩
   ·rw [e2] at q;exact q
   ·rw [e2] at z;cases z
  ·exact bP pins s σ H [.ref p] [u] Q I (.cons ru .nil) ⟨p,vs,rfl, .inl ⟨hq,fun l hl=>hr'.tup_new hG rq hl⟩⟩
theorem bR: ∀ {ds:List D} {ns:List Int} {vs:List V},dInts ds=some ns→Reps X.K ad G ds vs→vs=ns.map V.int
 | [],ns,vs,e,r=>by
  cases e
  unfold Reps at r
  exact r
 | d::ds,ns,vs,e,r=>by
  cases d<;>try (unfold dInts at e;cases e)
  rename_i i
  unfold dInts at e
  obtain⟨ms,e1,e2⟩:=zMd e
  subst e2
  unfold Reps at r
  obtain⟨v,r',rfl,r1,r2⟩:=r
  unfold Rep at r1
  subst r1
  rw [bR e1 r2]
  rfl
theorem cE: ∀ {ds:List D} {ns:List Bool} {vs:List V},dBools ds=some ns→Reps X.K ad G ds vs→vs=ns.map V.bl
 | [],ns,vs,e,r=>by
  cases e
  unfold Reps at r
  exact r
 | d::ds,ns,vs,e,r=>by
  cases d<;>try (unfold dBools at e;cases e)
  rename_i i
  unfold dBools at e
  obtain⟨ms,e1,e2⟩:=zMd e
  subst e2
  unfold Reps at r
  obtain⟨v,r',rfl,r1,r2⟩:=r
  unfold Rep at r1
  subst r1
  rw [cE e1 r2]
  rfl
theorem bS {A:Around} (hh:A.handled=none) (I:Inv X pins σ H s) {p:Addr} {vs:List V} (hq:SqL X.K H p vs∨SqT X.K H p vs) {Ex:Value→Shared→Prop} {Q':Value→Shared→Prop}
  (k: ∀ (its:List Value) (s2:Shared) (I':Addr) (fp wr:List Addr) (Stt:Nat→Heap→Prop),Vals vs its→Walks X.prog X.w A I' fp wr its.length (fun i v=>its[i]? =some v) Stt→Stt 0 s2.heap→(∀ b∈fp,b<s2.heap.objs.size)→s2.os=s.os→s2.gens=s.gens→s2.drawn=s.drawn→
   (∀ b o,s.heap.get? b=some o→b∉wr)→(∀ b o,s.heap.get? b=some o→s2.heap.get? b=some o)→Q' (.ref I') s2):wpAny (model X.prog X.w) A (pyIter (.ref p)) Q' Ex s:=by
 rcases hq with hq | hq
 ·obtain⟨its,rv,pl,_⟩:=I.list hq
  have hlt:p<s.heap.objs.size:=by obtain⟨o,n,e,_⟩:=pl;exact Heap.lt_size e
  refine wpAny_pyIter_list pl.isList (k its _ s.heap.objs.size [s.heap.objs.size,p] [s.heap.objs.size] (fun i h=>h.IsListIter s.heap.objs.size p i∧h.IsList p its.toArray) rv ?_ (And.intro ⟨_,Heap.get?_push_size _ rfl,rfl,rfl⟩ ?_) ?_ rfl rfl rfl ?_ ?_)
  ·have W:=Walks.list (prog:=X.prog) (w:=X.w) hh s.heap.objs.size p (Nat.ne_of_lt hlt) its.toArray
   simpa using W
  ·obtain⟨o,n,e,c,d⟩:=pl
   exact⟨o,Heap.get?_push_of_some _ e,c,n,d.2⟩
  ·intro b hb
   rcases List.mem_cons.mp hb with rfl | hb
   ·rw [Heap.size_push];exact Nat.lt_succ_self _
   ·have:b=p:=by simpa using hb
    subst this
    rw [Heap.size_push];exact Nat.lt_succ_of_lt hlt
  ·intro b o e hb
   have:b=s.heap.objs.size:=by simpa using hb
   subst this
   exact absurd (Heap.lt_size e) (Nat.lt_irrefl _)
  ·exact fun b o e=>Heap.get?_push_of_some _ e
 ·obtain⟨its,rv,pl,_⟩:=I.tuple hq
  have hlt:p<s.heap.objs.size:=pl.lt
  refine wpAny_pyIter_tuple (show s.heap.IsTuple p its.toArray from pl) (k its _ s.heap.objs.size [s.heap.objs.size,p] [s.heap.objs.size] (fun i h=>h.IsTupleIter s.heap.objs.size p i∧h.IsTuple p its.toArray) rv ?_ (And.intro ⟨_,Heap.get?_push_size _ rfl,rfl,rfl⟩ ?_) ?_ rfl rfl rfl ?_ ?_)
  ·have W:=Walks.tuple (prog:=X.prog) (w:=X.w) hh s.heap.objs.size p (Nat.ne_of_lt hlt) its.toArray
   simpa using W
  ·obtain⟨o,e,c⟩:=pl
   exact⟨o,Heap.get?_push_of_some _ e,c⟩
  ·intro b hb
   rcases List.mem_cons.mp hb with rfl | hb
   ·rw [Heap.size_push];exact Nat.lt_succ_self _
   ·have:b=p:=by simpa using hb
    subst this
    rw [Heap.size_push];exact Nat.lt_succ_of_lt hlt
  ·intro b o e hb
   have:b=s.heap.objs.size:=by simpa using hb
   subst this
   exact absurd (Heap.lt_size e) (Nat.lt_irrefl _)
  ·exact fun b o e=>Heap.get?_push_of_some _ e
end
section
variable {X:Cx} {ad:Ad} {pins:List (Addr×Obj)} {s:Shared} {σ:St} {H G:Hp} {ρ:Rho} {Q:VK} {E:Nat→Hp→Prop} {pos p:Pos} {a b c:Expr} {f g h:F}
theorem _root_.L2.Inv.moved {wr:List Addr} {s2 s':Shared} (I:Inv X pins σ H s) (k1: ∀ b o,s.heap.get? b=some o→s2.heap.get? b=some o) (k2: ∀ b o,s.heap.get? b=some o→b∉wr) (e1:s2.os=s.os) (e2:s2.gens=s.gens) (e3:s2.drawn=s.drawn)
  (m:Moved wr (fun a b=>b=a) s2 s'):Inv X pins σ H s':=by
 have e:s'={ s with heap:=s'.heap,toks:=s'.toks }:=by
  obtain⟨h',g',d',t',o'⟩:=s'
  obtain⟨m1,m2,m3,m4,m5⟩:=m
  simp only at m2 m3 m4 ⊢
  rw [m2,m3,m4,e1,e2,e3]
 rw [e]
 exact I.kept fun b o q=>m.heap b o (k2 b o q) (k1 b o q)
theorem iP {ns:List Int} {its:List Value} (r:Vals (ns.map V.int) its) {i:Nat} {v:Value} (e:its[i]? =some v): ∃ t,v= .int (ns.getD i 0) t:=by
 have hl:=r.length
 have hi:i<its.length:=(List.getElem?_eq_some_iff.mp e).1
 have hi':i<ns.length:=by rw [List.length_map] at hl;omega
 have e1:(ns.map V.int)[i]? =some (V.int ns[i]):=by simp [hi']
 obtain⟨u,e2,t,e3⟩:=r.get e1
 rw [e] at e2
 cases e2
 refine⟨t, ?_⟩
 rw [e3]
 simp [List.getD,hi']
theorem rN (hh:X.A.handled=none):BOp X ad (.builtin "sum") dSum:=by
 intro pins s σ H G x v u Q E I hG q ru hr
 have hr':RK X.K ad G H (match(items x).bind dInts with | some xs=> .ok (.int xs.sum) | none=> .bad) Q E:=hr
 cases e:items x with
 | none=>rw [e] at hr';exact hr'.elim
 | some ds=>
  rw [e] at hr'
  have hr2:RK X.K ad G H (match dInts ds with | some xs=> .ok (.int xs.sum) | none=> .bad) Q E:=hr'
  cases e2:dInts ds with
  | none=>rw [e2] at hr2;exact hr2.elim
  | some ns=>
   rw [e2] at hr2
   obtain⟨p,vs,rfl,hq,rq⟩:=q.items hG e
   have hq':SqL X.K H p vs∨SqT X.K H p vs:=hq.elim (fun z=> .inr z.2) fun z=> .inl z.2
   cases (show u=Value.ref p from ru)
   have ev:=bR e2 rq
   subst ev
   refine call_sum_walkAnyS (bS (A:=X.A.in1) hh I hq' fun its s2 I' fp wr Stt rv W st hfp h1 h2 h3 h4 h5=> ?_)
   refine⟨I',fp,wr,_,its.length,_,_,fun i=>ns.getD i 0,rfl,W.toS,st,hfp,fun i v e=>iP rv e,fun s' t' m=> ?_⟩
   refine⟨.int ns.sum,H,I.moved h5 h4 h1 h2 h3 m,⟨t', ?_⟩,hr2.ok_now hG aD⟩
   rw [preSum_getD, ←rv.length,List.length_map,List.take_length]
theorem vX {ns:List Bool} {its:List Value} (r:Vals (ns.map V.bl) its) {i:Nat} {v:Value} (e:its[i]? =some v):v= .bool (ns.getD i false):=by
 have hl:=r.length
 have hi:i<its.length:=(List.getElem?_eq_some_iff.mp e).1
 have hi':i<ns.length:=by rw [List.length_map] at hl;omega
 have e1:(ns.map V.bl)[i]? =some (V.bl ns[i]):=by simp [hi']
 obtain⟨u,e2,e3⟩:=r.get e1
 rw [e] at e2
 cases e2
 have e4:v= .bool ns[i]:=e3
 rw [e4]
 simp [List.getD,hi']
theorem kY (ns:List Bool):(List.range ns.length).all (fun i=>ns.getD i false)=ns.all id:=by
 induction ns with
 | nil=>rfl
 | cons x xs ih=>
  rw [List.length_cons,List.range_succ_eq_map,List.all_cons,List.all_map,List.all_cons]
  have:(List.range xs.length).all ((fun i=>(x::xs).getD i false) ∘ Nat.succ)=xs.all id:=by
   rw [←ih]
   rfl
  rw [this]
  rfl
theorem kZ (ns:List Bool):(List.range ns.length).any (fun i=>ns.getD i false)=ns.any id:=by
 induction ns with
 | nil=>rfl
 | cons x xs ih=>
  rw [List.length_cons,List.range_succ_eq_map,List.any_cons,List.any_map,List.any_cons]
  have:(List.range xs.length).any ((fun i=>(x::xs).getD i false) ∘ Nat.succ)=xs.any id:=by
   rw [←ih]
   rfl
  rw [this]
  rfl
theorem rO (hh:X.A.handled=none):BOp X ad (.builtin "all") dAll:=by
 intro pins s σ H G x v u Q E I hG q ru hr
 have hr':RK X.K ad G H (match(items x).bind dBools with | some xs=> .ok (.bl (xs.all id)) | none=> .bad) Q E:=hr
 cases e:items x with
 | none=>rw [e] at hr';exact hr'.elim
 | some ds=>
  rw [e] at hr'
  have hr2:RK X.K ad G H (match dBools ds with | some xs=> .ok (.bl (xs.all id)) | none=> .bad) Q E:=hr'
  cases e2:dBools ds with
  | none=>rw [e2] at hr2;exact hr2.elim
  | some ns=>
   rw [e2] at hr2
   obtain⟨p,vs,rfl,hq,rq⟩:=q.items hG e
   have hq':SqL X.K H p vs∨SqT X.K H p vs:=hq.elim (fun z=> .inr z.2) fun z=> .inl z.2
   cases (show u=Value.ref p from ru)
   have ev:=cE e2 rq
   subst ev
   refine call_all_walkS (bS (A:=X.A.in1) hh I hq' fun its s2 I' fp wr Stt rv W st hfp h1 h2 h3 h4 h5=> ?_)
   refine⟨I',fp,wr,_,its.length,_,_,fun i=>ns.getD i false,rfl,W.toS,st, ?_,fun s' m=> ?_⟩
   ·intro i v s' Q' E' e3 hQ
    rw [vX rv e3]
    exact wpAny_truthy_bool hQ
   ·refine⟨.bl _,H,I.moved h5 h4 h1 h2 h3 m, ?_,hr2.ok_now hG aG⟩
    rw [←rv.length,List.length_map,kY]
    rfl
theorem rP (hh:X.A.handled=none):BOp X ad (.builtin "any") dAny:=by
 intro pins s σ H G x v u Q E I hG q ru hr
 have hr':RK X.K ad G H (match(items x).bind dBools with | some xs=> .ok (.bl (xs.any id)) | none=> .bad) Q E:=hr
 cases e:items x with
 | none=>rw [e] at hr';exact hr'.elim
 | some ds=>
  rw [e] at hr'
  have hr2:RK X.K ad G H (match dBools ds with | some xs=> .ok (.bl (xs.any id)) | none=> .bad) Q E:=hr'
  cases e2:dBools ds with
  | none=>rw [e2] at hr2;exact hr2.elim
  | some ns=>
   rw [e2] at hr2
   obtain⟨p,vs,rfl,hq,rq⟩:=q.items hG e
   have hq':SqL X.K H p vs∨SqT X.K H p vs:=hq.elim (fun z=> .inr z.2) fun z=> .inl z.2
   cases (show u=Value.ref p from ru)
   have ev:=cE e2 rq
   subst ev
   refine call_any_walkS (bS (A:=X.A.in1) hh I hq' fun its s2 I' fp wr Stt rv W st hfp h1 h2 h3 h4 h5=> ?_)
   refine⟨I',fp,wr,_,its.length,_,_,fun i=>ns.getD i false,rfl,W.toS,st, ?_,fun s' m=> ?_⟩
   ·intro i v s' Q' E' e3 hQ
    rw [vX rv e3]
    exact wpAny_truthy_bool hQ
   ·refine⟨.bl _,H,I.moved h5 h4 h1 h2 h3 m, ?_,hr2.ok_now hG aG⟩
    rw [←rv.length,List.length_map,kZ]
    rfl
theorem len2 {α:Type} {ds:List α} (h:ds.length=2): ∃ d e,ds=[d,e]:=by
 cases ds with
 | nil=>cases h
 | cons d r=>
  cases r with
  | nil=>cases h
  | cons e r=>
   cases r with
   | nil=>exact⟨d,e,rfl⟩
   | cons _ _=>simp at h
theorem jS {x:Str} {id:String} {r:Fn} {op:Int→Int→Int} (hd: ∀ i j,r [.int i, .int j]= .ok (.int (op i j))) (hb0: ∀ x y Q E G H,RK X.K ad G H (r [x,y]) Q E→ ∃ i j,x= .int i∧y= .int j)
  (ho:CallR X (.builtin id) (fun xs H Q=> ∃ i j,xs=[.int i, .int j]∧Q (.int (op i j)) H)) (hg:L2.Gl X x) (hm:X.mg x=none) (hv:bootBuiltins x=some (.builtin id)) (ha:ME X ad a f) (hb:ME X ad b g) (hn:x≠"__name__")
  (hdb:(x==("__debug__":Str))=false) (he:starEach [a,b] X.env=(false,eval a X.env)::starEach [b] X.env) (he2:starEach [b] X.env=(false,eval b X.env)::starEach [] X.env):ME X ad (.Call (.Name x p) [a,b] [] pos) (rCall r [f,g]):=by
 refine PE.imp (nT (id:=id) ho hg hm hv (eP ha (eP hb kU he2) he) hn hdb he (by rw [he2];rfl)) ?_
 rintro σ H Q ⟨G,ρ,E,hG,hS,hx,hr⟩
 refine gW hG hS hx hr fun vs ds G1 H1 st rq hl k=> ?_
 obtain⟨d,e,rfl⟩:=len2 hl
 obtain⟨i,j,rfl,rfl⟩:=hb0 d e Q E G1 H1 k
 unfold Reps at rq
 obtain⟨v,r',rfl,r1,r2⟩:=rq
 unfold Reps at r2
 obtain⟨v',r'',rfl,r3,r4⟩:=r2
 unfold Reps at r4
 subst r4
 unfold Rep at r1 r3
 subst r1;subst r3
 rw [hd] at k
 exact⟨i,j,rfl,k.ok_now st.gh aD⟩
noncomputable def spOf (K:PySem.W.Frag) (ad:Ad) (n:Nat) (F:Fn):Sp:=fun vs H Q E=> ∃ G ds,Same G H∧Reps K ad G ds vs∧ds.length=n∧RK K ad G H (F ds) Q (fun c H'=>E (.ref (ad.cls c)) none H')
theorem k8 {CX:CXT} {k:Nat} {f:Addr} {fd:FuncData} {ps:List Str} {sp:Sp} {E:XK} {us:List Value} {vs:List V} (F:FnOk X.prog X.w X.K X.mg X.base CX k f fd ps sp) (hr:Room k X.A) (hb:Binds X.K fd ps [])
  (I:Inv X pins σ H s) (r:Vals vs us) (h:sp vs H Q E) (hx: ∀ e s',CX X.stack H s E e s'→X.xe e s'):wpAny (model X.prog X.w) X.A (call (.ref f) us) (EP X pins σ Q) X.xe s:=by
 have hl:(us++[]).length=ps.length:=by rw [List.append_nil, ←r.length];exact F.len _ _ _ _ h
 refine wpAny_call (codeAny_mono (F.run X.A X.stack s H ⟨us,[]⟩ us vs Q E hr I.env0 (by have:=hb s us I.kIn hl;rwa [List.append_nil] at this) r h) fun r s' hq=> ?_)
 cases r with
 | error e=>exact hx e s' hq
 | ok fl=>
  cases fl with
  | ret u=>exact I.after hq
  | next=>exact False.elim hq
  | brk=>exact False.elim hq
  | cont=>exact False.elim hq
structure FnGood (X:Cx) (ad:Ad) (k:Nat) (x:Str) (n:Nat) (F:Fn) (f:Addr):Prop where
 mg:X.mg x=some (.ref f)
 kp:PySem.W.keepIn X.K (.ref f)=true
 ok: ∃ fd ps,FnOk X.prog X.w X.K X.mg X.base (CXe X.prog X.w) k f fd ps (spOf X.K ad n F)∧Binds X.K fd ps []
theorem k9 {k n:Nat} {x:Str} {F:Fn} {f:Addr} {us:List Value} {vs:List V} {ds:List D} (T:FnGood X ad k x n F f) (hr:Room k X.A) (I:Inv X pins σ H s) (hG:Same G H) (hx:XP X ad σ E) (r:Vals vs us) (rq:Reps X.K ad G ds vs) (hl:ds.length=n)
  (h:RK X.K ad G H (F ds) Q E):wpAny (model X.prog X.w) X.A (call (.ref f) us) (EP X pins σ Q) X.xe s:=by
 obtain⟨fd,ps,F',hb⟩:=T.ok
 exact k8 (E:=xk ad E) F' hr hb I r ⟨G,ds,hG,rq,hl,h.impE fun c H' e=>⟨c,rfl,e⟩⟩ fun e s' hc=>hx pins H s e s' I hc
theorem rQ {k n:Nat} {x:Str} {F:Fn} {f:Addr} {es:List Expr} {fs:List SK.F} (T:FnGood X ad k x n F f) (hr:Room k X.A) (hg:L2.Gl X x) (hdb:(x==("__debug__":Str))=false) (ha:MA X ad (a::es) fs) (hn:fs.length=n)
  (he:starEach (a::es) X.env=(false,eval a X.env)::starEach es X.env) (hpl:(backTo pos (starEach es X.env)).any (·.1)=false):ME X ad (.Call (.Name x p) (a::es) [] pos) (rCall F fs):=by
 intro pins s σ H Q I ⟨G,ρ,E,hG,hS,hx,hr'⟩
 refine wpAny_Call_Name_kw (bX I hg T.mg ?_ hdb)
 refine PySem.W.callWith_K (h₀:=X.base) I.ok.mod.kin T.kp (L2.thn (ha pos pins s σ H (fun vs H1=> ∃ ds G1,Step G H G1 H1∧Reps X.K ad G1 ds vs∧ds.length=fs.length∧RK X.K ad G1 H1 (F ds) Q E) I
  (gW hG hS hx hr' fun vs ds G1 H1 st rq hl k=>⟨ds,G1,st,rq,hl,k⟩)) fun us s1 ⟨vs,H1,I1,r,ds,G1,st,rq,hl,k⟩=>⟨I1.kIn, ?_⟩) he hpl
 exact k9 T hr I1 st.gh hx r rq (hl.trans hn) k
structure FnAt (X:Cx) (ad:Ad) (k:Nat) (n:Nat) (F:Fn) (f:Addr):Prop where
 kp:PySem.W.keepIn X.K (.ref f)=true
 ok: ∃ fd ps,FnOk X.prog X.w X.K X.mg X.base (CXe X.prog X.w) k f fd ps (spOf X.K ad n F)∧Binds X.K fd ps []
theorem rR {k n:Nat} {F:Fn} {f:Addr} {us:List Value} {vs:List V} {ds:List D} (T:FnAt X ad k n F f) (hr:Room k X.A) (I:Inv X pins σ H s) (hG:Same G H) (hx:XP X ad σ E) (r:Vals vs us) (rq:Reps X.K ad G ds vs) (hl:ds.length=n)
  (h:RK X.K ad G H (F ds) Q E):wpAny (model X.prog X.w) X.A (call (.ref f) us) (EP X pins σ Q) X.xe s:=by
 obtain⟨fd,ps,F',hb⟩:=T.ok
 exact k8 (E:=xk ad E) F' hr hb I r ⟨G,ds,hG,rq,hl,h.impE fun c H' e=>⟨c,rfl,e⟩⟩ fun e s' hc=>hx pins H s e s' I hc
theorem iQ {tab:List (Nat×Fn)} {e:Expr} {g:SK.F} {es:List Expr} {fs:List SK.F} (T: ∀ j n F,tab[j]? =some (n,F)→ ∃ r,FnAt X ad r n F (ad.fnA j)∧Room r X.A) (hg:ME X ad e g) (ha:MA X ad (a::es) fs)
  (he:starEach (a::es) X.env=(false,eval a X.env)::starEach es X.env) (hpl:(backTo pos (starEach es X.env)).any (·.1)=false)
  (hev:eval (.Call e (a::es) [] pos) X.env=(do callWith pos (←eval e X.env) [] (backTo pos (starEach (a::es) X.env)) (backToKw pos (keywordEach [] X.env)))):ME X ad (.Call e (a::es) [] pos) (rCallV tab g fs):=by
 intro pins s σ H Q I ⟨G,ρ,E,hG,hS,hx,hr⟩
 refine Call_ (L2.thn (hg.thn I hG hS hx hr) fun u s1 ⟨v,d,G1,H1,I1,r1,st,q,k1⟩=> ?_) hev
 cases d<;>try exact False.elim k1
 rename_i j
 have k2:RK X.K ad G1 H1 (match tab[j]? with | some (n,f)=>if n=fs.length then rAll fs ρ f else .bad | none=> .bad) Q E:=k1
 cases e1:tab[j]? with
 | none=>rw [e1] at k2;exact k2.elim
 | some nf=>
  obtain⟨n,F⟩:=nf
  rw [e1] at k2
  have k3:RK X.K ad G1 H1 (if n=fs.length then rAll fs ρ F else .bad) Q E:=k2
  by_cases hn:n=fs.length
  ·rw [if_pos hn] at k3
   unfold Rep at q
   subst q
   cases (show u=Value.ref (ad.fnA j) from r1)
   obtain⟨r,FA,hro⟩:=T j n F e1
   refine PySem.W.callWith_K (h₀:=X.base) I1.ok.mod.kin FA.kp (L2.thn (ha pos pins s1 σ H1 (fun vs H2=> ∃ ds G2,Step G1 H1 G2 H2∧Reps X.K ad G2 ds vs∧ds.length=fs.length∧RK X.K ad G2 H2 (F ds) Q E) I1
    (gW st.gh (hS.step st) hx k3 fun vs ds G2 H2 st2 rq hl k=>⟨ds,G2,st2,rq,hl,k⟩)) fun us s2 ⟨vs,H2,I2,r2,ds,G2,st2,rq,hl,k⟩=>⟨I2.kIn, ?_⟩) he hpl
   exact rR FA hro I2 st2.gh hx r2 rq (hl.trans hn.symm) k
  ·rw [if_neg hn] at k3
   exact k3.elim
end
noncomputable def clOf (cells:List (Str×Addr)):List (Str×NameKind)→List (Str×Addr)→List (Str×Addr)
 | [],acc=>acc
 | (x,k)::r,acc=>clOf cells r (if k== .free then(x,(cells.lookup x).getD 0)::acc else acc)
theorem cS {cells:List (Str×Addr)}: ∀ {ns:List (Str×NameKind)} {acc:List (Str×Addr)} {x:Str} {c:Addr},(clOf cells ns acc).lookup x=some c→(∃ k,(x,k)∈ns∧k= .free∧c=(cells.lookup x).getD 0)∨acc.lookup x=some c
 | [],acc,x,c,h=> .inr h
 | (y,k)::r,acc,x,c,h=>by
  rcases cS (ns:=r) h with ⟨k',h1,h2,h3⟩ | h
  ·exact .inl ⟨k', .tail _ h1,h2,h3⟩
  ·by_cases hk:(k==NameKind.free)=true
   ·rw [if_pos hk,List.lookup_cons] at h
    cases hx:x==y with
    | true=>
     rw [hx] at h
     have e:x=y:=eq_of_beq hx
     subst e
     exact .inl ⟨k, .head _,eq_of_beq hk,(Option.some.inj h).symm⟩
    | false=>
     rw [hx] at h
     exact .inr h
   ·rw [if_neg hk] at h
    exact .inr h
theorem iR {cells:List (Str×Addr)}: ∀ {ns:List (Str×NameKind)} {acc:List (Str×Addr)} {x:Str},(acc.lookup x).isSome=true→((clOf cells ns acc).lookup x).isSome=true
 | [],_,_,h=>h
 | (y,k)::r,acc,x,h=>by
  refine iR (ns:=r) ?_
  by_cases hk:(k==NameKind.free)=true
  ·rw [if_pos hk,List.lookup_cons]
   cases x==y with
   | true=>rfl
   | false=>exact h
  ·rw [if_neg hk]
   exact h
theorem cT {cells:List (Str×Addr)}: ∀ {ns:List (Str×NameKind)} {acc:List (Str×Addr)} {x:Str},(x,NameKind.free)∈ns→((clOf cells ns acc).lookup x).isSome=true
 | [],_,_,h=>nomatch h
 | (y,k)::r,acc,x,h=>by
  rcases List.mem_cons.mp h with e | h
  ·cases e
   refine iR (ns:=r) ?_
   rw [if_pos (by rfl),List.lookup_cons,beq_self_eq_true]
   rfl
  ·exact cT (ns:=r) h
theorem cF {sc:Scope} {env:PySem.Env} (h: ∀ x,(x,NameKind.free)∈sc.names→(env.cells.lookup x).isSome=true):closureFor sc env=pure (clOf env.cells sc.names []):=by
 have go: ∀ (ns:List (Str×NameKind)) (acc:List (Str×Addr)),(∀ x,(x,NameKind.free)∈ns→(env.cells.lookup x).isSome=true)→
   (forIn ns acc (fun(p:Str×NameKind) (cs:List (Str×Addr))=>if p.2== .free then do let c←cellOf env p.1;pure (ForInStep.yield ((p.1,c)::cs)) else pure (ForInStep.yield cs)):Sem (List (Str×Addr)))=pure (clOf env.cells ns acc):=by
  intro ns
  induction ns with
  | nil=>intro acc _;rfl
  | cons p r ih=>
   intro acc hp
   obtain⟨x,k⟩:=p
   rw [List.forIn_cons]
   by_cases hk:(k==NameKind.free)=true
   ·have ek:k= .free:=eq_of_beq hk
    subst ek
    obtain⟨c,hc⟩:=Option.isSome_iff_exists.mp (hp x (.head _))
    have e1:cellOf env x=pure c:=by unfold cellOf;rw [hc]
    have e2:=ih ((x,c)::acc) fun y hy=>hp y (.tail _ hy)
    simp only [beq_self_eq_true,if_true,e1]
    show(forIn r ((x,c)::acc) _:Sem (List (Str×Addr)))=_
    rw [e2]
    show pure _=pure (clOf env.cells r (if(NameKind.free==NameKind.free)=true then(x,(env.cells.lookup x).getD 0)::acc else acc))
    rw [if_pos (by rfl),hc]
    rfl
   ·simp only [hk]
    show(forIn r acc _:Sem (List (Str×Addr)))=_
    rw [ih acc fun y hy=>hp y (.tail _ hy)]
    show pure _=pure (clOf env.cells r (if(k==NameKind.free)=true then _ else acc))
    rw [if_neg hk]
 have e:=go sc.names [] h
 have e2:closureFor sc env=((forIn sc.names ([]:List (Str×Addr)) (fun(p:Str×NameKind) (cs:List (Str×Addr))=>if p.2== .free then do let c←cellOf env p.1;pure (ForInStep.yield ((p.1,c)::cs)) else pure (ForInStep.yield cs)):Sem (List (Str×Addr))) >>= fun cs=>pure cs):=rfl
 rw [e2,e]
 rfl
theorem aK {env:PySem.Env} {x:Str}: ∀ {names:List (Str×NameKind)},(names.map fun(n,k)=>if(k==NameKind.free&&env.scope.kind== .function&&env.kindOf n==some .cell) then(n,NameKind.cell) else(n,k)).lookup x=
  (names.lookup x).map fun k=>if(k==NameKind.free&&env.scope.kind== .function&&env.kindOf x==some .cell) then NameKind.cell else k
 | []=>rfl
 | (n,k)::r=>by
  rw [List.map_cons]
  have ih:= @aK env x r
  show List.lookup x ((if(k==NameKind.free&&env.scope.kind== .function&&env.kindOf n==some .cell)=true then(n,NameKind.cell) else(n,k))::_)=_
  by_cases hc:(k==NameKind.free&&env.scope.kind== .function&&env.kindOf n==some .cell)=true
  ·rw [if_pos hc,List.lookup_cons,List.lookup_cons]
   cases hx:x==n with
   | true=>
    have e:x=n:=eq_of_beq hx
    subst e
    simp only [Option.map,hc,if_true]
   | false=>exact ih
  ·rw [if_neg hc,List.lookup_cons,List.lookup_cons]
   cases hx:x==n with
   | true=>
    have e:x=n:=eq_of_beq hx
    subst e
    simp only [Option.map]
    rw [if_neg hc]
   | false=>exact ih
noncomputable def gAll:Nat→Nat→TGs
 | _,0=>gNil
 | j,n+1=>gCons (gName j) (gAll (j+1) n)
noncomputable def setAll:Nat→List V→St→St
 | _,[],σ=>σ
 | j,v::r,σ=>setAll (j+1) r (σ.set j (some v))
theorem lE: ∀ {vs:List V} {j:Nat} {σ:St} {H:Hp} {Q:St→Hp→Prop},Q (setAll j vs σ) H→gAll j vs.length vs σ H Q
 | [],_,_,_,_,h=>⟨rfl,h⟩
 | v::r,j,σ,H,Q,h=>⟨v,r,rfl,lE (vs:=r) (j:=j+1) (σ:=σ.set j (some v)) h⟩
theorem bC: ∀ {vs:List V} {j:Nat} {σ:St},(setAll j vs σ).length=σ.length
 | [],_,_=>rfl
 | v::r,j,σ=>by
  show(setAll (j+1) r (σ.set j (some v))).length=_
  rw [bC (vs:=r),List.length_set]
theorem dJ: ∀ {vs:List V} {j i:Nat} {σ:St},j+vs.length≤i∨i<j→(setAll j vs σ)[i]? =σ[i]?
 | [],_,_,_,_=>rfl
 | v::r,j,i,σ,h=>by
  show(setAll (j+1) r (σ.set j (some v)))[i]? =_
  simp only [List.length_cons] at h
  rw [dJ (vs:=r) (by omega),List.getElem?_set_ne (by omega)]
theorem fQ: ∀ {vs:List V} {j i:Nat} {σ:St} {v:V},vs[i]? =some v→j+vs.length≤σ.length→(setAll j vs σ)[j+i]? =some (some v)
 | [],_,_,_,_,h,_=>by simp at h
 | w::r,j,0,σ,v,h,hl=>by
  simp at h
  subst h
  show(setAll (j+1) r (σ.set j (some w)))[j]? =_
  rw [dJ (vs:=r) (.inr (by omega)),List.getElem?_set_self (by simp only [List.length_cons] at hl;omega)]
 | w::r,j,i+1,σ,v,h,hl=>by
  show(setAll (j+1) r (σ.set j (some w)))[j+(i+1)]? =_
  have e:j+(i+1)=(j+1)+i:=by omega
  rw [e]
  exact fQ (vs:=r) (by simpa using h) (by simp only [List.length_cons,List.length_set] at hl ⊢;omega)
section
variable {X:Cx} {ad:Ad}
theorem fR (hN:X.N.Nodup): ∀ {es:List Expr} {xs:List Str} {j:Nat},mapO (fun(e:Expr)=>match e with | .Name x _=>some x | _=>none) es=some xs→(∀ (i:Nat) (x:Str),xs[i]? =some x→X.N[j+i]? =some x∧X.env.scope.names.lookup x=some .local)→PGs X es (gAll j xs.length)
 | [],xs,j,e,_=>by
  cases e
  exact kG
 | a::es,xs,j,e,h=>by
  unfold mapO at e
  cases a<;>try (cases e)
  rename_i x px
  simp only at e
  obtain⟨r,e1,e2⟩:=zMd e
  subst e2
  obtain⟨h1,h2⟩:=h 0 x rfl
  refine iD (bY hN (by simpa using h1) (.inl h2) (.inr h2)) (fR hN e1 fun i y hy=> ?_) rfl
  obtain⟨h3,h4⟩:=h (i+1) y (by simpa using hy)
  exact⟨by rw [←h3];congr 1;omega,h4⟩
noncomputable def gTg (K:PySem.W.Frag) (k:Nat):TG:=match k with
 | 0=>gName 0
 | n+1=>gTup K (n+1) (gAll 0 (n+1))
theorem yA {tg:Expr} {xs:List Str} {k:Nat} (hc:X.calm=true) (hN:X.N.Nodup) (e:tgNames tg=some (xs,k)) (h: ∀ (i:Nat) (x:Str),xs[i]? =some x→X.N[i]? =some x∧X.env.scope.names.lookup x=some .local):PG X tg (gTg X.K k):=by
 cases tg<;>try (cases e)
 ·rename_i x px
  obtain⟨h1,h2⟩:=h 0 x rfl
  exact bY hN h1 (.inl h2) (.inr h2)
 ·rename_i es j px
  unfold tgNames at e
  obtain⟨ys,e1,e2⟩:=zBd e
  by_cases hl:2≤ys.length
  ·rw [if_pos hl] at e2
   cases e2
   have P:=fR (X:=X) hN (j:=0) e1 fun i x hx=>by
    obtain⟨h1,h2⟩:=h i x hx
    exact⟨by rw [Nat.zero_add];exact h1,h2⟩
   have hlen:(assignEach es X.env).length=xs.length∧(assignEach es X.env).findIdx? (·.1)=none:=by
    clear P hl h e
    induction es generalizing xs with
    | nil=>cases e1;exact⟨rfl,rfl⟩
    | cons a r ih=>
     unfold mapO at e1
     cases a<;>try (cases e1)
     rename_i z pz
     simp only at e1
     obtain⟨r',e3,e4⟩:=zMd e1
     subst e4
     obtain⟨i1,i2⟩:=ih e3
     have ec:assignEach (Expr.Name z pz::r) X.env=(false,assign (.Name z pz) X.env)::assignEach r X.env:=rfl
     rw [ec]
     refine⟨by simp [i1], ?_⟩
     rw [List.findIdx?_cons]
     simp [i2]
   obtain⟨n,hn⟩: ∃ n,xs.length=n+1:=⟨xs.length - 1,by omega⟩
   rw [hn] at P ⊢
   exact pN hc P (by rw [←hn];exact hlen.1) hlen.2
  ·rw [if_neg hl] at e2
   cases e2
end
structure ItH (X:Cx) (ad:Ad) (J:It) (G H:Hp) (ds:List D):Prop where
 go: ∀ (i:Nat) (G1 H1:Hp) (d:D),Step G H G1 H1→ds[i]? =some d→J.go i H1∧ ∀ x H2,J.yld i H1 x H2→ ∃ G2,Step G1 H1 G2 H2∧Rep X.K ad G2 d x
 stop: ∀ (G1 H1:Hp),Step G H G1 H1→J.stop ds.length H1
 few:ds.length≤sizeLine
def IK (X:Cx) (ad:Ad) (G H:Hp) (r:R) (W:It→Hp→Prop) (E:Nat→Hp→Prop):Prop:=match r with
 | .ok d=> ∃ ds,items d=some ds∧ ∀ J G' H',Step G H G' H'→ItH X ad J G' H' ds→W J H'
 | .ow xs=> ∀ J G' H',Step G H G' H'→ItH X ad J G' H' xs→W J H'
 | .ex c=> ∀ G' H',Step G H G' H'→E c H'
 | .bad=>False
noncomputable def tI (X:Cx) (ad:Ad) (f:F):TI:=fun σ H W=> ∃ G ρ E,Same G H∧SL X.K ad G H ρ σ∧XP X ad σ E∧IK X ad G H (f ρ) W E
abbrev MI (X:Cx) (ad:Ad) (tg e:Expr) (f:F):Prop:=PI X tg e (tI X ad f)
def Cel (sc:Scope):Prop:=cels sc=[]∨ ∃ x,cels sc=[x]∧sc.names.lookup x=some .cell
theorem cf0: ∀ {ns:List (Str×NameKind)} {a:Nat} {acc:List (Str×Addr)},(ns.filter fun p=>p.2== .cell).map (·.1)=[]→cellsFrom a ns acc=acc∧ ∀ h,pushCells h ns=h
 | [],_,_,_=>⟨rfl,fun _=>rfl⟩
 | (y,k)::r,a,acc,e=>by
  by_cases hk:(k==NameKind.cell)=true
  ·simp [List.filter_cons,hk] at e
  ·have e':(r.filter fun p=>p.2== .cell).map (·.1)=[]:=by simpa [List.filter_cons,hk] using e
   obtain⟨h1,h2⟩:=cf0 (a:=a) (acc:=acc) e'
   unfold cellsFrom pushCells
   exact⟨by rw [if_neg hk];exact h1,fun h=>by rw [if_neg hk];exact h2 h⟩
theorem cf1: ∀ {ns:List (Str×NameKind)} {a:Nat} {acc:List (Str×Addr)} {x:Str},(ns.filter fun p=>p.2== .cell).map (·.1)=[x]→cellsFrom a ns acc=(x,a)::acc∧ ∀ h,pushCells h ns=h.push { cls:= .type "cell",data:= .cell none }
 | [],_,_,_,e=>by simp at e
 | (y,k)::r,a,acc,x,e=>by
  by_cases hk:(k==NameKind.cell)=true
  ·have e':y=x∧(r.filter fun p=>p.2== .cell).map (·.1)=[]:=by simpa [List.filter_cons,hk] using e
   obtain⟨rfl,e'⟩:=e'
   obtain⟨h1,h2⟩:=cf0 (a:=a+1) (acc:=(y,a)::acc) e'
   unfold cellsFrom pushCells
   exact⟨by rw [if_pos hk];exact h1,fun h=>by rw [if_pos hk];exact h2 _⟩
  ·have e':(r.filter fun p=>p.2== .cell).map (·.1)=[x]:=by simpa [List.filter_cons,hk] using e
   obtain⟨h1,h2⟩:=cf1 (a:=a) (acc:=acc) e'
   unfold cellsFrom pushCells
   exact⟨by rw [if_neg hk];exact h1,fun h=>by rw [if_neg hk];exact h2 h⟩
noncomputable def clC (X:Cx) (sc:Scope) (L:Addr):List (Str×Addr):=cellsFrom (L+1) sc.names (clOf X.env.cells sc.names [])
theorem bD {X:Cx} {sc:Scope} {L:Addr} {y:Str} {c:Addr} (hc:Cel sc) (h:(clC X sc L).lookup y=some c):(cels sc=[y]∧c=L+1)∨(clOf X.env.cells sc.names []).lookup y=some c:=by
 unfold clC at h
 rcases hc with e | ⟨x,e,_⟩
 ·rw [(cf0 e).1] at h;exact .inr h
 ·rw [(cf1 e).1,List.lookup_cons] at h
  cases q:y==x with
  | true=>rw [q] at h;rw [eq_of_beq q];exact .inl ⟨e,(Option.some.inj h).symm⟩
  | false=>rw [q] at h;exact .inr h
theorem lF {X:Cx} {sc:Scope} {L:Addr} {x:Str} (e:cels sc=[x]):(clC X sc L).lookup x=some (L+1):=by
 unfold clC
 rw [(cf1 e).1,List.lookup_cons,beq_self_eq_true]
theorem iS {X:Cx} {sc:Scope} {L:Addr} {y:Str} {c:Addr} (hc:Cel sc) (hy:sc.names.lookup y=some .free) (h:(clOf X.env.cells sc.names []).lookup y=some c):(clC X sc L).lookup y=some c:=by
 unfold clC
 rcases hc with e | ⟨x,e,hx⟩
 ·rw [(cf0 e).1];exact h
 ·rw [(cf1 e).1,List.lookup_cons]
  cases q:y==x with
  | true=>rw [eq_of_beq q,hx] at hy;cases hy
  | false=>exact h
noncomputable def cX (X:Cx) (N':List Str) (sc:Scope) (s3:Shared) (H3:Hp) (fp:List Addr) (pins:List (Addr×Obj)):Cx:=
 { X with N:=N',s₀:=s3,H₀:=H3,env:=compEnvC sc (clC X sc s3.heap.objs.size) s3.heap.objs.size X.env,outer:=X.stack,stack:=X.stack,ex:=fp,fn:=fun y=>decide (cels sc=[y]),pn:=X.pn++pins,xe:=fun _ _=>False }
section
variable {X:Cx} {ad:Ad} {pins:List (Addr×Obj)} {s s3:Shared} {σ:St} {H H3 G:Hp} {ρ:Rho} {Q:VK} {E:Nat→Hp→Prop} {pos:Pos} {sc:Scope} {N':List Str} {fp:List Addr}
theorem n6 {Y:Cx} {σ:St} (h:Y.xe=fun _ _=>False):XP Y ad σ (fun _ _=>False):=by
 intro pins H s e s' I hc
 obtain⟨ea,cls,a0,H',B,_,_,_,_,_,_,_,_,_,c,_,z⟩:=hc
 exact z.elim
theorem Un.sameBut {fs ex:List Addr} {H H':Hp} {h h1 h2:Heap} {C:Addr} (u:Un fs ex H H' h h1) (sb:Heap.SameBut C h1 h2) (hC:h.objs.size≤C):Un fs ex H H' h h2:=by
 have ne: ∀ b o,h.get? b=some o→b≠C:=fun b o e z=>by
  subst z
  exact absurd (Nat.lt_of_lt_of_le (Heap.lt_size e) hC) (Nat.lt_irrefl _)
 refine⟨fun b o e n hb hx=> ?_,fun b o e n hb hx=> ?_,u.free,fun b o e hx=> ?_,u.tups,u.frzs,u.tbls⟩
 ·exact(sb.2 b (ne b o e)).trans (u.keep b o e n hb hx)
 ·obtain⟨sl,z⟩:=u.slot b o e n hb hx
  exact⟨sl,(sb.2 b (ne b o e)).trans z⟩
 ·obtain⟨o',z⟩:=u.there b o e hx
  exact⟨o',(sb.2 b (ne b o e)).trans z⟩
theorem n8 {fpO: ∀ b∈fp,FpOk X pins H3 b} {h4:Heap} {m:Str→Option Value} {t':Nat} (I:Inv X pins σ H3 s3) (hk:sc.kind= .function) (hc:Cel sc)
  (hfree: ∀ x,(x,NameKind.free)∈sc.names→X.env.kindOf x=some .cell∨X.env.kindOf x=some .free) (hnd: ∀ x,(x,NameKind.free)∈sc.names→sc.names.lookup x=some .free)
  (hfo: ∀ b∈fp,b<s3.heap.objs.size) (hns:h4.Ns s3.heap.objs.size m) (hkeep: ∀ b o,s3.heap.get? b=some o→h4.get? b=some o) (hnew: ∀ x,cels sc=[x]→h4.IsCell (s3.heap.objs.size+1) none)
  {σc:St} (hl:σc.length=N'.length) (hσ: ∀ (i:Nat) (x:Str) (v:V),N'[i]? =some x→σc[i]? =some (some v)→ ∃ j:Nat,X.N[j]? =some x∧σ[j]? =some (some v)∧(x,NameKind.free)∈sc.names):
  Inv (cX X N' sc s3 H3 fp pins) [] σc H3 { s3 with heap:=h4,toks:=t' }:=by
 have hcl: ∀ x c,(clOf X.env.cells sc.names []).lookup x=some c→(x,NameKind.free)∈sc.names∧X.env.cells.lookup x=some c:=fun x c e=>by
  rcases cS e with ⟨k,h1,h2,h3⟩ | h
  ·subst h2
   refine⟨h1, ?_⟩
   obtain⟨c',hc'⟩:=I.ok.has x (hfree x h1)
   rw [hc'] at h3
   rw [h3]
   exact hc'
  ·cases h
 have hlt: ∀ x c,(clOf X.env.cells sc.names []).lookup x=some c→c<s3.heap.objs.size:=fun x c e=>by
  obtain⟨v,o,ho,_⟩:=I.cell x c (hcl x c e).2
  exact Heap.lt_size ho
 have stk: ∀ b,b∈frs X.stack→b=X.env.locals∨b∈X.fs:=fun b hb=>List.mem_cons.mp (I.stkSub b hb)
 refine⟨⟨I.ok.mod,hk,I.ok.glob,I.ok.blt,Nat.le_refl _,fun x y c h1 h2=> ?_,fun x hx=> ?_,fun x c h1 h2=> ?_,I.ok.hd,I.ok.frames, .inl rfl,fun b hb=> ?_,I.bs,Nat.le_trans I.ok.bsz I.sz,fun b o e hb=> ?_,fun b hb hb'=> ?_,I.stack,I.stkFree⟩,
  rfl,I.bare,Un.kept hkeep,⟨m,hns,fun i x v h1 h2 h3=> ?_⟩,fun x c h=> ?_,I.hok.fresh (Nat.le_refl _),fun x c h=> ?_,fun q hq=> ?_,I.hok.kept hkeep,hl⟩
 ·rcases bD hc h1 with ⟨e1,z1⟩ | z1
  ·rcases bD hc h2 with ⟨e2,z2⟩ | z2
   ·rw [e1] at e2
    exact(List.cons.inj e2).1
   ·have:=hlt y c z2
    rw [z1] at this
    exact absurd this (Nat.not_lt.mpr (Nat.le_succ _))
  ·rcases bD hc h2 with ⟨e2,z2⟩ | z2
   ·have:=hlt x c z1
    rw [z2] at this
    exact absurd this (Nat.not_lt.mpr (Nat.le_succ _))
   ·exact I.ok.inj x y c (hcl x c z1).2 (hcl y c z2).2
 ·-- a name that is a cell here was free in the scope
  have e:(sc.names.lookup x).map (fun k=>if(k==NameKind.free&&X.env.scope.kind== .function&&X.env.kindOf x==some .cell) then NameKind.cell else k)=some .cell∨(sc.names.lookup x).map (fun k=>if(k==NameKind.free&&X.env.scope.kind== .function&&X.env.kindOf x==some .cell) then NameKind.cell else k)=some .free:=by
   rw [←aK]
   exact hx
  cases q:sc.names.lookup x with
  | none=>rw [q] at e;rcases e with e | e<;>cases e
  | some k=>
   have hm:=PySem.mem_of_lookup q
   by_cases hkk:k= .free
   ·subst hkk
    obtain⟨c,hc'⟩:=Option.isSome_iff_exists.mp (cT (cells:=X.env.cells) (acc:=[]) hm)
    exact⟨c,iS hc q hc'⟩
   ·have hkf:(k==NameKind.free)=false:=by simpa using hkk
    rw [q] at e
    simp only [Option.map,hkf,Bool.false_and] at e
    rcases e with e | e
    ·have hkc:k= .cell:=by simpa using e
     subst hkc
     have hmem:x∈cels sc:=List.mem_map.mpr ⟨(x, .cell),List.mem_filter.mpr ⟨hm,by simp⟩,rfl⟩
     have hx1:cels sc=[x]:=by
      rcases hc with z | ⟨y,z,_⟩
      ·rw [z] at hmem;cases hmem
      ·rw [z] at hmem ⊢
       rw [List.mem_singleton.mp hmem]
     exact⟨_,lF hx1⟩
    ·exact absurd (by simpa using e) hkk
 ·have hx1:cels sc=[x]:=of_decide_eq_true h1
  have:=h2.symm.trans (lF hx1)
  cases this
  exact Nat.le_succ _
 ·obtain⟨f0,f1,f2,f3,f4,f5⟩:=fpO b hb
  refine⟨Nat.ne_of_lt (hfo b hb),fun x c h=> ?_⟩
  rcases bD hc h with ⟨_,z⟩ | z
  ·rw [z];exact(Nat.ne_of_lt (Nat.lt_succ_of_lt (hfo b hb))).symm
  ·exact f4 x c (hcl x c z).2
 ·obtain⟨f0,f1,f2,f3,f4,f5⟩:=fpO b hb
  rcases f3 with z | z
  ·exact I.ok.noex b o e z
  ·exact absurd (Nat.lt_of_lt_of_le (Heap.lt_size e) (Nat.le_trans I.ok.bsz z)) (Nat.lt_irrefl _)
 ·obtain⟨f0,f1,f2,f3,f4,f5⟩:=fpO b hb
  rcases stk b hb' with z | z
  ·exact f1 z
  ·exact f2 z
 ·obtain⟨j,j1,j2,j3⟩:=hσ i x v h1 h2
  obtain⟨m0,hn0,hl0⟩:=I.loc
  have hkx:=hfree x j3
  have vis:Vis X.env.scope x:=by
   rcases hkx with z | z
   ·exact .inr (.inl z)
   ·exact .inr (.inr z)
  obtain⟨u,r,l⟩:=hl0 j x v j1 j2 vis
  refine⟨u,r, .inr ?_⟩
  rcases l with ⟨z,_⟩ | ⟨_,c,hcc,hcell'⟩
  ·rcases hkx with z' | z'
   ·have:X.env.kindOf x=some .local:=z
    rw [z'] at this;cases this
   ·have:X.env.kindOf x=some .local:=z
    rw [z'] at this;cases this
  ·refine⟨?_,c, ?_, ?_⟩
   ·have e1:(relabel sc X.env).names.lookup x=(sc.names.lookup x).map (fun k=>if(k==NameKind.free&&X.env.scope.kind== .function&&X.env.kindOf x==some .cell) then NameKind.cell else k):=aK
    have e2:(relabel sc X.env).names.lookup x=some .cell∨(relabel sc X.env).names.lookup x=some .free:=by
     rw [e1,hnd x j3]
     simp only [Option.map]
     split
     ·exact .inl rfl
     ·exact .inr rfl
    exact e2
   ·obtain⟨c',hc'⟩:=Option.isSome_iff_exists.mp (cT (cells:=X.env.cells) (acc:=[]) j3)
    have:=(hcl x c' hc').2
    rw [hcc] at this
    cases this
    exact iS hc (hnd x j3) hc'
   ·obtain⟨o,ho,hd⟩:=hcell'
    exact⟨o,hkeep _ _ ho,hd⟩
 ·rcases bD hc h with ⟨e,z⟩ | z
  ·rw [z];exact⟨none,hnew x e⟩
  ·obtain⟨v,o,ho,hd⟩:=I.cell x c (hcl x c z).2
   exact⟨v,o,hkeep _ _ ho,hd⟩
 ·rcases bD hc h with ⟨e,z⟩ | z
  ·rw [z];exact I.hok.fresh (Nat.le_succ _)
  ·exact I.freeC x c (hcl x c z).2
 ·have hq':q∈X.pn++pins:=by
   have h2:q∈(X.pn++pins)++[]:=hq
   rwa [List.append_nil] at h2
  obtain⟨e,n,ne,nf,d⟩:=I.pin q hq'
  refine⟨hkeep _ _ e,n,Nat.ne_of_lt (Heap.lt_size e),fun z=> ?_,d⟩
  rcases stk _ z with z | z
  ·exact ne z
  ·exact nf z
theorem p8 {fpO: ∀ b∈fp,FpOk X pins H3 b} {σc:St} {H':Hp} {s':Shared} {h':Heap} {pn':List (Addr×Obj)} (I:Inv X pins σ H3 s3) (J:Inv (cX X N' sc s3 H3 fp pins) pn' σc H' s') (sb:Heap.SameBut s3.heap.objs.size s'.heap h'):Inv X pins σ H' { s' with heap:=h' }:=by
 have hfree:H' s3.heap.objs.size=none:=J.free
 refine I.call' (ch:=fp) (s':={ s' with heap:=h' }) J.os (Un.sameBut J.base sb (Nat.le_refl _)) (fun b u e=> ?_) J.bare fun b hb=> ?_
 ·refine(J.hok b u e).stay (fun c v hc q=> ?_) (fun _ q=>q) fun _ _ q=>q
  have ne:c≠s3.heap.objs.size:=by
   rintro rfl
   rcases hc with z | z
   ·rw [←z] at e;rw [hfree] at e;cases e
   ·rw [hfree] at z;cases z
  exact(sb.2 c ne).trans q
 ·obtain⟨f0,f1,f2,f3,f4,f5⟩:=fpO b hb
  exact⟨f3,f1,f4,f5⟩
theorem gZ {prog:Program} {w:World} {A:Around} {Rr:Result→Shared→Prop} {s:Shared} {elt target iter:Expr} {ifs:List Expr} {scope:Scope} {pos:Pos} {it acc:Value} {env:PySem.Env} (Iv:Nat→Shared→Prop)
  (turn: ∀ n s,Iv n s→wpAny (model prog w) A (pyNext it) (fun r s₁=>match r with
   | none=>Rr (.ok .next) s₁
   | some v=>wpAny (model prog w) A (letOwnedTupleGo target it v) (fun _ s₁'=>wpAny (model prog w) A (assign target env v) (fun _ s₂=>
     wpAny (model prog w) A (forIn ifs true fun c r=>if r=true then do let ok←isTrue c env (eval c env);pure (ForInStep.yield ok) else pure (ForInStep.yield r)) (fun ok s₃=>
      if ok=true then wpAny (model prog w) A (eval elt env) (fun x s₄=>
       wpAny (model prog w) A (call (.builtin "list.append") [acc,x]) (fun _ s₅=> ∃ m,m<n∧Iv m s₅) (fun _ _=>False) s₄) (fun _ _=>False) s₃
      else ∃ m,m<n∧Iv m s₃) (fun _ _=>False) s₂) (fun _ _=>False) s₁') (fun _ _=>False) s₁) (fun _ _=>False) s)
  (n:Nat) (h:Iv n s):
  codeAny (model prog w) A (.compLoop (.ListComp elt [⟨target,iter,ifs,0⟩] scope pos) 0 it acc env) Rr s:=by
 refine codeAny_loop rfl Iv (fun n s hI=> ?_) n h
 show wpAny _ A ((compTurn (.ListComp elt [⟨target,iter,ifs,0⟩] scope pos) 0 it acc env).onRaise (fun x=>do noteFrame x env;theTreesLotGoes x)) _ _ s
 refine wpAny_noted (wpAny_noRaise ?_)
 rw [compTurn_list]
 refine wpAny_bind (wpAny_standAt (wpAny_bind (wpAny_mono (turn n s hI) (fun r s₁ h₁=> ?_) fun _ _ h'=>h')))
 cases r with
 | none=>exact wpAny_pure h₁
 | some v=>
  refine wpAny_bind (wpAny_mono h₁ (fun _ s₁' h₁'=> ?_) fun _ _ h'=>h')
  refine wpAny_bind (wpAny_mono h₁' (fun _ s₂ h₂=>wpAny_bind (wpAny_mono h₂ (fun ok s₃ h₃=> ?_) fun _ _ h'=>h')) fun _ _ h'=>h')
  cases ok with
  | false=>exact wpAny_pure ⟨rfl,h₃⟩
  | true=>
   exact wpAny_bind (wpAny_bind (wpAny_mono h₃ (fun x s₄ h₄=>wpAny_bind (wpAny_mono h₄ (fun _ s₅ h₅=>wpAny_pure (wpAny_pure ⟨rfl,h₅⟩)) fun _ _ h'=>h')) fun _ _ h'=>h'))
theorem dM {f:D→Option (Option D)} {d:D} {r all:List D} (h:compGo f (d::r)=some all):(f d=some none∧compGo f r=some all)∨ ∃ x all',f d=some (some x)∧compGo f r=some all'∧all=x::all':=by
 unfold compGo at h
 cases e:f d with
 | none=>rw [e] at h;cases h
 | some o=>
  rw [e] at h
  cases o with
  | none=>exact .inl ⟨rfl,h⟩
  | some x=>
   obtain⟨a,h1,h2⟩:=zMd h
   exact .inr ⟨x,a,rfl,h1,h2.symm⟩
theorem lG {K:PySem.W.Frag} {G H:Hp} {ts cs:List Slot} {σ:St} (h:SL K ad G H (ts++cs) σ):SL K ad G H (List.replicate ts.length .no++cs) σ:=by
 refine⟨by rw [←h.len];simp,fun i sl e=> ?_⟩
 by_cases hi:i<ts.length
 ·rw [List.getElem?_append_left (by simpa using hi),List.getElem?_replicate,if_pos hi] at e
  cases e
  have hl:i<σ.length:=by rw [←h.len,List.length_append];omega
  exact⟨σ[i],by simp [hl],trivial⟩
 ·rw [List.getElem?_append_right (by simpa using hi),List.length_replicate] at e
  refine h.at_ i sl ?_
  rw [List.getElem?_append_right (by omega)]
  exact e
theorem p9 {K:PySem.W.Frag} {G H:Hp} {n:Nat} {cs:List Slot} {σ:St} {ds:List D} {vs:List V} (h:SL K ad G H (List.replicate n .no++cs) σ) (r:Reps K ad G ds vs) (hn:ds.length=n):SL K ad G H (ds.map Slot.sh++cs) (setAll 0 vs σ):=by
 have hv:=r.length
 have hl:=h.len
 rw [List.length_append,List.length_replicate] at hl
 refine⟨by rw [bC,List.length_append,List.length_map];omega,fun i sl e=> ?_⟩
 by_cases hi:i<n
 ·rw [List.getElem?_append_left (by rw [List.length_map];omega),List.getElem?_map] at e
  cases e1:ds[i]? with
  | none=>rw [e1] at e;cases e
  | some d=>
   rw [e1] at e
   cases e
   obtain⟨v,e2,r2⟩:=r.get e1
   refine⟨some v, ?_,v,rfl,r2⟩
   have:=fQ (j:=0) (σ:=σ) e2 (by omega)
   rwa [Nat.zero_add] at this
 ·rw [List.getElem?_append_right (by rw [List.length_map];omega),List.length_map,hn] at e
  obtain⟨ov,h1,h2⟩:=h.at_ i sl (by rw [List.getElem?_append_right (by rw [List.length_replicate];omega),List.length_replicate];exact e)
  exact⟨ov,by rw [dJ (.inl (by omega))];exact h1,h2⟩
theorem vY {K:PySem.W.Frag} {k:Nat} {d:D} {v:V} {ts cs:List Slot} {n:Nat} {σ:St} {G H Hs:Hp} {W:St→Hp→Prop} (e:tgt k d=some ts) (hn:n=if k=0 then 1 else k) (hG:Same G H) (r:Rep K ad G d v)
  (h:SL K ad G Hs (List.replicate n .no++cs) σ) (q: ∀ σ',σ'.length=σ.length→SL K ad G Hs (ts++cs) σ'→W σ' H):ts.length=n∧gTg K k v σ H W:=by
 cases k with
 | zero=>
  cases e
  subst hn
  refine⟨rfl,q _ (by rw [List.length_set]) ?_⟩
  have:=p9 (ds:=[d]) (vs:=[v]) h (Reps.cons r Reps.nil) rfl
  exact this
 | succ k=>
  unfold tgt at e
  cases d<;>try (cases e)
  rename_i ds
  simp only at e
  by_cases hl:ds.length=k+1
  ·rw [if_pos hl] at e
   cases e
   rw [if_neg (by omega)] at hn
   subst hn
   unfold Rep at r
   obtain⟨a,vs,rfl,hq,rq⟩:=r
   refine⟨by rw [List.length_map];exact hl,a,vs,rfl,hG.seqT hq,by rw [rq.length];exact hl, ?_⟩
   have hvl:vs.length=k+1:=by rw [rq.length];exact hl
   have:=lE (vs:=vs) (j:=0) (σ:=σ) (H:=H) (Q:=W) (q _ bC (p9 h rq hl))
   rwa [hvl] at this
  ·rw [if_neg hl] at e
   cases e
end
section
variable {X:Cx} {ad:Ad} {pins:List (Addr×Obj)} {s s2 s3:Shared} {σ:St} {H H2 H3 G G2:Hp} {ρ:Rho} {Q:VK} {E:Nat→Hp→Prop} {pos:Pos} {sc:Scope} {N':List Str} {fp:List Addr}
 {tg it elt:Expr} {ifs:List Expr} {k nt:Nat} {xs:List Str} {cs:List Slot} {fc:Option F} {fe:F}
theorem bE {x:Str}: ∀ {N:List Str} {i:Nat},idx x N=some i→N[i]? =some x
 | [],_,e=>by cases e
 | y::r,i,e=>by
  unfold idx at e
  by_cases h:x=y
  ·rw [if_pos h] at e
   cases e
   subst h
   rfl
  ·rw [if_neg h] at e
   obtain⟨j,e1,e2⟩:=zMd e
   subst e2
   simpa using bE e1
def MTs (X:Cx) (ad:Ad) (ifs:List Expr) (fc:Option F):Prop:=match ifs,fc with
 | [],none=>True
 | [c],some f=>MT X ad c f
 | _,_=>False
theorem ME.val {a:Expr} {f:F} {x:SK.D} (ha:ME X ad a f) (I:Inv X pins σ H s) (hG:Same G H) (hS:SL X.K ad G H ρ σ) (hx:XP X ad σ E) (hf:f ρ= .ok x∨ ∃ l,f ρ= .ow l∧x= .lst l):
  wpAny (model X.prog X.w) X.A (eval a X.env) (fun u s1=> ∃ v G1 H1,Inv X pins σ H1 s1∧RelV v u∧Step G H G1 H1∧Rep X.K ad G1 x v) X.xe s:=by
 rcases hf with e | ⟨l,e,rfl⟩
 ·exact L2.thn (ha pins s σ H (fun v H1=> ∃ G1,Step G H G1 H1∧Rep X.K ad G1 x v) I ⟨G,ρ,E,hG,hS,hx,by rw [e];exact fun v G1 H1 st q=>⟨G1,st,q⟩⟩) fun u s1 ⟨v,H1,I1,r1,G1,st,q⟩=>⟨v,G1,H1,I1,r1,st,q⟩
 ·exact L2.thn (ha pins s σ H (fun v H1=> ∃ G1,Step G H G1 H1∧Rep X.K ad G1 (.lst l) v) I ⟨G,ρ,E,hG,hS,hx,by rw [e];exact fun p vs G1 H1 st n m e' q=>aO st n m e' q⟩) fun u s1 ⟨v,H1,I1,r1,G1,st,q⟩=>⟨v,G1,H1,I1,r1,st,q⟩
theorem MT.val {a:Expr} {f:F} {k:Bool} (ha:MT X ad a f) (I:Inv X pins σ H s) (hG:Same G H) (hS:SL X.K ad G H ρ σ) (hx:XP X ad σ E) (hf:f ρ= .ok (.bl k)):
  wpAny (model X.prog X.w) X.A (isTrue a X.env (eval a X.env)) (fun b s1=>b=k∧ ∃ G1 H1,Inv X pins σ H1 s1∧Step G H G1 H1) X.xe s:=by
 exact L2.thn (ha pins s σ H (fun b H1=>b=k∧ ∃ G1,Step G H G1 H1) I ⟨G,ρ,E,hG,hS,hx, .inl ⟨k,hf⟩,by rw [hf];exact fun v G1 H1 st q=>⟨k,by unfold Rep at q;exact q,rfl,G1,st⟩⟩) fun b s1 ⟨H1,I1,e,G1,st⟩=>⟨e,G1,H1,I1,st⟩
theorem aP {G1 H1 G2 H2:Hp} {D:Addr} {vs:List V} (st:Step G1 H1 G2 H2) (g:G1 D=none) (h:H1 D=some (.lst vs)):G2 D=none∧H2 D=some (.lst vs):=by
 refine⟨?_,st.sh _ _ h⟩
 cases z:G2 D with
 | none=>rfl
 | some o=>
  have:=st.nw D g (by rw [z];exact fun z=>nomatch z)
  rw [h] at this
  cases this
theorem fS {G1 H1 G2 H2:Hp} {D:Addr} {o:HO} (st:Step G1 H1 G2 H2) (n:H1 D=none) (g:G2 D=none):Step G1 H1 G2 (upd H2 D o):=by
 refine⟨st.sg,fun b u e=> ?_,fun b u e=> ?_,st.nw⟩
 ·have ne:b≠D:=fun z=>by subst z;rw [g] at e;cases e
  rw [aA ne]
  exact st.gh b u e
 ·have ne:b≠D:=fun z=>by subst z;rw [n] at e;cases e
  rw [aA ne]
  exact st.sh b u e
noncomputable def hid (D:Addr) (H:Hp):Hp:=fun b=>if b=D then none else H b
theorem dN {D b:Addr} {H:Hp} (h:b≠D):hid D H b=H b:=by unfold hid;rw [if_neg h]
theorem bF {D:Addr} {H:Hp}:hid D H D=none:=by unfold hid;rw [if_pos rfl]
theorem lH {D:Addr} {H:Hp}:Same (hid D H) H:=fun b o e=>by
 by_cases z:b=D
 ·subst z;rw [bF] at e;cases e
 ·rwa [dN z] at e
theorem lI {D:Addr} {H:Hp} {o:HO}:hid D (upd H D o)=hid D H:=by
 funext b
 by_cases z:b=D
 ·subst z;rw [bF,bF]
 ·rw [dN z,dN z,aA z]
theorem vZ {D:Addr} {H:Hp} (h:H D=none):hid D H=H:=by
 funext b
 by_cases z:b=D
 ·subst z;rw [bF,h]
 ·rw [dN z]
theorem cU {G1 H1 G2 H2:Hp} {D:Addr} (st:Step G1 H1 G2 H2) (g:G2 D=none):Step G1 (hid D H1) G2 (hid D H2):=by
 refine⟨st.sg,fun b u e=> ?_,fun b u e=> ?_,fun b h1 h2=> ?_⟩
 ·have ne:b≠D:=fun z=>by subst z;rw [g] at e;cases e
  rw [dN ne]
  exact st.gh b u e
 ·have ne:b≠D:=fun z=>by subst z;rw [bF] at e;cases e
  rw [dN ne] at e ⊢
  exact st.sh b u e
 ·by_cases z:b=D
  ·subst z;exact bF
  ·rw [dN z];exact st.nw b h1 h2
theorem SL.up {K:PySem.W.Frag} {G H H':Hp} {ρ:Rho} {σ:St} (h:SL K ad G H ρ σ) (s:Same H H'):SL K ad G H' ρ σ:=by
 refine⟨h.len,fun i sl e=> ?_⟩
 obtain⟨ov,h1,h2⟩:=h.at_ i sl e
 refine⟨ov,h1, ?_⟩
 cases sl with
 | no=>trivial
 | sh d=>exact h2
 | ow xs=>
  obtain⟨a,vs,e1,e2,e3,e4⟩:=h2
  exact⟨a,vs,e1,e2,s _ _ e3,e4⟩
 | dc kvs=>
  obtain⟨a,es,e1,e2,e3,e4⟩:=h2
  exact⟨a,es,e1,e2,s _ _ e3,e4⟩
 | sd kvs=>
  obtain⟨a,es,e1,e2,e3,e4⟩:=h2
  exact⟨a,es,e1,e2,s _ _ e3,e4⟩
theorem n9 {M:Model} {A:Around} {Ex:Value→Shared→Prop} {s:Shared} {sc:Scope} {gl:Addr} {cl:List (Str×Addr)} {q:Str} {o:PySem.Env} {Q:PySem.Env→Shared→Prop} (hc:Cel sc)
  (h: ∀ h4:Heap,h4.Ns s.heap.objs.size (fun _=>none)→(∀ b ob,s.heap.get? b=some ob→h4.get? b=some ob)→(∀ x,cels sc=[x]→h4.IsCell (s.heap.objs.size+1) none)→
   Q (newEnv sc s.heap.objs.size gl (cellsFrom (s.heap.objs.size+1) sc.names cl) q none .none (some o) builtinsNs) { s with heap:=h4 }):
  wpAny M A (newFunctionEnv sc gl cl [] q none .none (some o)) Q Ex s:=by
 simp only [newFunctionEnv,Option.isSome_some,if_true]
 refine wpAny_bind (wpAny_alloc ?_)
 refine wpAny_bind (wpAny_layCells _ (fun name kind cells=>by cases hkc:kind==NameKind.cell<;>simp [hkc]) _ _ _ _ ?_)
 have hns:(s.heap.push { cls:= .type "dict",data:= .dict #[] }).Ns s.heap.objs.size (fun _=>none):=Heap.Ns.new s.heap (.type "dict")
 have hkp: ∀ b ob,s.heap.get? b=some ob→(pushCells (s.heap.push { cls:= .type "dict",data:= .dict #[] }) sc.names).get? b=some ob:=fun b ob e=>pushCells_keeps _ _ b ob (Heap.get?_push_of_some _ e)
 have hz:(s.heap.push { cls:= .type "dict",data:= .dict #[] }:Heap).objs.size=s.heap.objs.size+1:=Heap.size_push ..
 rw [List.forIn_nil]
 refine wpAny_bind (wpAny_pure (wpAny_pure ?_))
 have:=h _ (hns.keeps (pushCells_keeps _ _)) hkp fun x e=>by
  rw [(cf1 (a:=0) (acc:=[]) e).2]
  refine⟨{ cls:= .type "cell",data:= .cell none }, ?_,rfl⟩
  rw [←hz]
  exact Heap.get?_push_size _ rfl
 rw [←hz] at this
 exact this
theorem fT {J:It} {ds all:List D} {itA:Addr} {tn:Nat→Heap→Prop} {RR:Value→Addr→Result→Shared→Prop} {Ex:Value→Shared→Prop} (hc:X.calm=true) (I2:Inv X pins σ H2 s2) (T:Turn X.prog X.w X.K tg J fp itA tn) (st2:tn 0 s2.heap)
  (f2: ∀ b∈fp,FpOk X pins H2 b) (hit:ItH X ad J G2 H2 ds) (hgo:compGo (compF k cs fc fe) ds=some all) (hG2:Same G2 H2)
  (hk:sc.kind= .function) (hC:Cel sc)
  (hfree: ∀ x,(x,NameKind.free)∈sc.names→X.env.kindOf x=some .cell∨X.env.kindOf x=some .free) (hnd: ∀ x,(x,NameKind.free)∈sc.names→sc.names.lookup x=some .free)
  {σc:St} (hl:σc.length=N'.length) (hσ: ∀ (i:Nat) (x:Str) (v:V),N'[i]? =some x→σc[i]? =some (some v)→ ∃ j:Nat,X.N[j]? =some x∧σ[j]? =some (some v)∧(x,NameKind.free)∈sc.names)
  (hnt:nt=if k=0 then 1 else k) (hsl:SL X.K ad G2 H2 (List.replicate nt .no++cs) σc)
  (hg: ∀ s3 H3 pins',PG (cX X N' sc s3 H3 fp pins') tg (gTg X.K k)) (hts: ∀ s3 H3 pins',MTs (cX X N' sc s3 H3 fp pins') ad ifs fc) (he: ∀ s3 H3 pins',ME (cX X N' sc s3 H3 fp pins') ad elt fe)
  (hEnd: ∀ (s3 s':Shared) (H3 H' G':Hp) (σ':St) (D:Addr) (vs:List V),Inv X pins σ H3 s3→(∀ b∈fp,FpOk X pins H3 b)→Inv (cX X N' sc s3 H3 fp pins) [] σ' H' s'→Step G2 H2 G' H'→H2 D=none→G' D=none→H' D=some (.lst vs)→Reps X.K ad G' all vs→RR (.ref D) s3.heap.objs.size (.ok .next) s'):
  wpAny (model X.prog X.w) X.A (newList []) (fun acc s₃=>wpAny (model X.prog X.w) X.A (newFunctionEnv sc X.env.globals (clOf X.env.cells sc.names []) [] X.env.qual none .none (some X.env)) (fun cenv s₄=>
   codeAny (model X.prog X.w) X.A (.compStart (.ListComp elt [⟨tg,it,ifs,0⟩] sc pos) 0 (.ref itA) acc { cenv with scope:=relabel sc X.env }) (RR acc cenv.locals) s₄) Ex s₃) Ex s2:=by
 refine wpAny_newObj_type ?_
 have hD:H2 s2.heap.objs.size=none:=I2.fresh
 have I3:Inv X pins σ (upd H2 s2.heap.objs.size (.lst [])) { s2 with heap:=s2.heap.push { cls:= .type "list",data:= .seq ([]:List Value).toArray } }:=I2.lnew (t':=s2.toks) .nil (Nat.zero_le _)
 generalize e3:({ s2 with heap:=s2.heap.push { cls:= .type "list",data:= .seq ([]:List Value).toArray } }:Shared)=s3 at I3
 have hsz:s3.heap.objs.size=s2.heap.objs.size+1:=by rw [←e3];exact Heap.size_push ..
 have hk3: ∀ b o,s2.heap.get? b=some o→s3.heap.get? b=some o:=fun b o e=>by rw [←e3];exact Heap.get?_push_of_some _ e
 generalize eD:s2.heap.objs.size=D at hD I3 hsz ⊢
 generalize eH:upd H2 D (.lst [])=H3 at I3
 have hH3D:H3 D=some (.lst []):=by rw [←eH];exact aE
 have hstep3:Step G2 H2 G2 H3:=by rw [←eH];exact Step.own hG2 hD
 have hfo: ∀ b∈fp,b<D:=fun b hb=>by
  obtain⟨o,e,_⟩:=T.obj 0 _ st2 b hb
  rw [←eD]
  exact Heap.lt_size e
 have f3: ∀ b∈fp,FpOk X pins H3 b:=fun b hb=>by
  obtain⟨f0,fr⟩:=f2 b hb
  refine⟨?_,fr⟩
  rw [←eH,aA (Nat.ne_of_lt (hfo b hb))]
  exact f0
 refine n9 hC fun h4 hns hkeep4 hnew4=> ?_
 have I4:Inv (cX X N' sc s3 H3 fp pins) [] σc H3 { s3 with heap:=h4 }:=
  n8 (t':=s3.toks) (fpO:=f3) I3 hk hC hfree hnd (fun b hb=>Nat.lt_of_lt_of_le (hfo b hb) (by rw [hsz];exact Nat.le_succ _)) hns hkeep4 hnew4 hl hσ
 have st4:tn 0 h4:=T.keep _ _ _ st2 fun b hb o e=>hkeep4 b o (hk3 b o e)
 have few:=hit.few
 -- what holds of the iterator's objects in the block
 have stat: ∀ {H':Hp},(∀ b∈fp,H' b=none)→ ∀ b∈fp,FpOk (cX X N' sc s3 H3 fp pins) [] H' b:=fun {H'} hn b hb=>by
  obtain⟨f0,f1,f2',f3',f4,f5⟩:=f3 b hb
  refine⟨hn b hb, ?_,fun z=> ?_, .inl hb,fun x c h=> ?_,fun q hq=> ?_⟩
  ·have hle:D≤s3.heap.objs.size:=by rw [hsz];exact Nat.le_succ _
   exact Nat.ne_of_lt (Nat.lt_of_lt_of_le (hfo b hb) hle)
  ·rcases List.mem_cons.mp (I3.stkSub b z) with z | z
   ·exact f1 z
   ·exact f2' z
  ·rcases bD hC h with ⟨_,z⟩ | h'
   ·have hle:D≤s3.heap.objs.size:=by rw [hsz];exact Nat.le_succ _
    rw [z]
    exact(Nat.ne_of_lt (Nat.lt_succ_of_lt (Nat.lt_of_lt_of_le (hfo b hb) hle))).symm
   rcases cS h' with ⟨kk,h1,h2,h3⟩ | h
   ·subst h2
    obtain⟨c',hc'⟩:=I3.ok.has x (hfree x h1)
    rw [hc'] at h3
    have e:c=c':=h3
    rw [e]
    exact f4 x c' hc'
   ·cases h
  ·have h2:q∈(X.pn++pins)++[]:=hq
   rw [List.append_nil] at h2
   exact f5 q h2
 have loop: ∀ s4:Shared,s4={ s3 with heap:=h4 }→
   codeAny (model X.prog X.w) X.A (.compLoop (.ListComp elt [⟨tg,it,ifs,0⟩] sc pos) 0 (.ref itA) (.ref D) (cX X N' sc s3 H3 fp pins).env) (RR (.ref D) s3.heap.objs.size) s4:=by
  rintro s4 rfl
  obtain⟨Iv,hIv⟩: ∃ Iv:Nat→Shared→Prop, ∀ n s',Iv n s'↔ ∃ (i:Nat) (σ':St) (H' G':Hp) (ys rest:List SK.D) (vs:List V),Inv (cX X N' sc s3 H3 fp pins) [] σ' H' s'∧tn i s'.heap∧(∀ b∈fp,H' b=none)∧Step G2 H2 G' H'∧G' D=none∧H' D=some (.lst vs)∧Reps X.K ad G' ys vs∧
   compGo (compF k cs fc fe) (ds.drop i)=some rest∧ys++rest=all∧i≤ds.length∧n=ds.length - i∧ys.length≤i∧SL X.K ad G' (hid D H') (List.replicate nt .no++cs) σ':=⟨_,fun _ _=>Iff.rfl⟩
  refine gZ Iv ?_ ds.length
   ((hIv _ _).mpr ⟨0,σc,H3,G2,[],all,[],I4,st4,fun b hb=>(f3 b hb).1,hstep3,fM hG2 hD,hH3D,Reps.nil,hgo,rfl,Nat.zero_le _,rfl,Nat.le_refl _,by rw [←eH,lI,vZ hD];exact hsl⟩)
  intro n s5 hI5
  obtain⟨i,σ5,H5,G5,ys,rest,vs,I5,st5,fr5,sp5,gD5,hD5,r5,go5,eq5,hi5,rfl,hy5,sl5⟩:=(hIv _ _).mp hI5
  by_cases hlt:i<ds.length
  ·-- a turn
   have ed:ds[i]? =some ds[i]:=by simp [hlt]
   generalize ds[i]=d at ed
   have edrop:ds.drop i=d::ds.drop (i+1):=by
    rw [List.drop_eq_getElem_cons hlt]
    congr 1
    have:=List.getElem?_eq_some_iff.mp ed
    exact this.2
   rw [edrop] at go5
   obtain⟨go,yl⟩:=hit.go i G5 H5 d sp5 ed
   refine L2.thn (T.item (cX X N' sc s3 H3 fp pins) rfl rfl rfl hc i [] s5 σ5 H5 (fun _ _=>False) I5 (stat fr5) st5 go) fun r s6 hz_=> ?_
   obtain⟨u,hr,h6⟩:=hz_
   subst hr
   refine L2.thn h6 fun _ s7 hz_=> ?_
   obtain⟨x,H7,I7,r7,y7,st7,fr7⟩:=hz_
   obtain⟨G7,sp7,rx7⟩:=yl x H7 y7
   have I7':=I7.pinned (stat fr7) (T.obj _ _ st7)
   obtain⟨gD7,hD7⟩:=aP sp7 gD5 hD5
   have sl7:=sl5.step (cU sp7 gD7)
   -- the target
   have hcomp: ∃ ts,tgt k d=some ts:=by
    cases z:tgt k d with
    | some ts=>exact⟨ts,rfl⟩
    | none=>
     exfalso
     rcases dM go5 with ⟨e,_⟩ | ⟨x',_,e,_,_⟩<;>(unfold compF at e;rw [z] at e;cases e)
   obtain⟨ts,ets⟩:=hcomp
   obtain⟨htl,gt⟩:=vY (W:=fun σ' H'=>H'=H7∧SL X.K ad G7 (hid D H7) (ts++cs) σ') ets hnt sp7.gh rx7 sl7 (fun σ' _ q=>⟨rfl,q⟩)
   refine L2.thn (hg s3 H3 pins _ s7 σ5 H7 x u _ I7' r7 gt) fun _ s8 hz_=> ?_
   obtain⟨σ8,H8,I8,e8,sl8⟩:=hz_
   subst e8
   -- again, at the turn's end
   have again: ∀ {s9:Shared} {H9 G9:Hp} {ys9 rest9:List SK.D} {vs9:List V},Inv (cX X N' sc s3 H3 fp pins) ([]++pinsAt fp s7.heap) σ8 H9 s9→Step G2 H2 G9 H9→G9 D=none→H9 D=some (.lst vs9)→Reps X.K ad G9 ys9 vs9→compGo (compF k cs fc fe) (ds.drop (i+1))=some rest9→ys9++rest9=all→ys9.length≤i+1→
     SL X.K ad G9 (hid D H9) (ts++cs) σ8→ ∃ m,m<ds.length - i∧Iv m s9:=by
    intro s9 H9 G9 ys9 rest9 vs9 I9 sp9 gD9 hD9 r9 go9 eq9 hy9 sl9
    refine⟨ds.length - (i+1),by omega,(hIv _ _).mpr ⟨i+1,σ8,H9,G9,ys9,rest9,vs9,I9.unpinned,T.keep _ _ _ st7 fun b hb o e=>(I9.pin (b,o) (List.mem_append_right _ (List.mem_append_right _ (aW hb e)))).1,fun b hb=> ?_,sp9,gD9,hD9,r9,go9,eq9,by omega,rfl,hy9, ?_⟩⟩
    ·obtain⟨o,e,d'⟩:=T.obj _ _ st7 b hb
     exact(I9.pin (b,o) (List.mem_append_right _ (List.mem_append_right _ (aW hb e)))).2.1
    ·have:=lG sl9
     rwa [htl] at this
   have xpF:XP (cX X N' sc s3 H3 fp pins) ad σ8 (fun _ _=>False):=n6 rfl
   have sp8:Step G2 H2 G7 H8:=sp5.trans sp7
   -- the element
   have elem: ∀ {s9:Shared} {H9 G9:Hp} (x':SK.D) (all':List SK.D),Inv (cX X N' sc s3 H3 fp pins) ([]++pinsAt fp s7.heap) σ8 H9 s9→Step G7 H8 G9 H9→(fe (ts++cs)= .ok x'∨ ∃ l,fe (ts++cs)= .ow l∧x'= .lst l)→compGo (compF k cs fc fe) (ds.drop (i+1))=some all'→rest=x'::all'→
     wpAny (model X.prog X.w) X.A (eval elt (cX X N' sc s3 H3 fp pins).env) (fun x s₄=>wpAny (model X.prog X.w) X.A (call (.builtin "list.append") [.ref D,x]) (fun _ s₅=> ∃ m,m<ds.length - i∧Iv m s₅) (fun _ _=>False) s₄) (fun _ _=>False) s9:=by
    intro s9 H9 G9 x' all' I9 sp9 hf hgo' hrest
    obtain⟨gD9,hD9⟩:=aP sp9 gD7 hD7
    have sl9:=sl8.step (cU sp9 gD9)
    refine L2.thn (ME.val (X:=cX X N' sc s3 H3 fp pins) (he s3 H3 pins) I9 sp9.gh (sl9.up lH) xpF hf) fun u10 s10 hz_=> ?_
    obtain⟨v10,G10,H10,I10,r10,sp10,q10⟩:=hz_
    obtain⟨gD10,hD10⟩:=aP sp10 gD9 hD9
    have hlen:vs.length<sizeLine:=by
     have:=r5.length
     omega
    refine L2.thn (dF (X:=cX X N' sc s3 H3 fp pins) _ s10 σ8 H10 (.ref D) [v10] (.ref D) [u10] (fun _ H'=>H'=upd H10 D (.lst (vs++[v10]))) I10 rfl (.cons r10 .nil) ⟨D,vs,v10,rfl,rfl,hD10,hlen,rfl⟩) fun _ s11 hz_=> ?_
    obtain⟨_,H11,I11,_,e11⟩:=hz_
    subst e11
    have spT:Step G2 H2 G10 H10:=(sp8.trans sp9).trans sp10
    have spA:Step G2 H2 G10 (upd H10 D (.lst (vs++[v10]))):=fS spT hD gD10
    have rA:Reps X.K ad G10 (ys++[x']) (vs++[v10]):=((r5.mono sp7.sg).mono sp9.sg).mono sp10.sg |>.append (Reps.cons q10 Reps.nil)
    have slA:SL X.K ad G10 (hid D (upd H10 D (.lst (vs++[v10])))) (ts++cs) σ8:=by
     rw [lI]
     exact sl9.step (cU sp10 gD10)
    refine again I11 spA gD10 aE rA hgo' ?_ (by simp;omega) slA
    rw [List.append_assoc]
    rw [hrest] at eq5
    exact eq5
   rcases dM go5 with ⟨e,hgo'⟩ | ⟨x',all',e,hgo',hrest⟩
   ·-- left out
    unfold compF at e
    rw [ets] at e
    cases fc with
    | none=>
     exfalso
     simp only at e
     cases z:fe (ts++cs)<;>rw [z] at e<;>cases e
    | some f0=>
     simp only at e
     have hT:=hts s3 H3 pins
     match ifs,hT with
     | [c0],hT=>
      have hv:f0 (ts++cs)= .ok (.bl false):=by
       cases z:f0 (ts++cs) with
       | ok dd=>
        rw [z] at e
        cases dd<;>try (cases e)
        rename_i bb
        cases bb with
        | false=>rfl
        | true=>
         exfalso
         simp only at e
         cases z':fe (ts++cs)<;>rw [z'] at e<;>cases e
       | ow _=>rw [z] at e;cases e
       | ex _=>rw [z] at e;cases e
       | bad=>rw [z] at e;cases e
      refine wpAny_tests_one (L2.thn (MT.val (X:=cX X N' sc s3 H3 fp pins) hT I8 sp7.gh (sl8.up lH) xpF hv) fun ok s9 hz_=> ?_)
      obtain⟨eb,G9,H9,I9,sp9⟩:=hz_
      subst eb
      obtain⟨gD9,hD9⟩:=aP sp9 gD7 hD7
      exact iteF (again I9 (sp8.trans sp9) gD9 hD9 ((r5.mono sp7.sg).mono sp9.sg) hgo' eq5 (by omega) (sl8.step (cU sp9 gD9)))
     | [],hT=>exact hT.elim
     | _::_::_,hT=>exact hT.elim
   ·-- taken
    unfold compF at e
    rw [ets] at e
    cases fc with
    | none=>
     have hT:=hts s3 H3 pins
     match ifs,hT with
     | [],_=>
      refine wpAny_tests_nil (iteT ?_)
      refine elem x' all' I8 (Step.refl sp7.gh) ?_ hgo' hrest
      simp only at e
      cases z:fe (ts++cs) with
      | ok dd=>rw [z] at e;cases e;exact .inl rfl
      | ow l=>rw [z] at e;cases e;exact .inr ⟨l,rfl,rfl⟩
      | ex _=>rw [z] at e;cases e
      | bad=>rw [z] at e;cases e
     | _::r1,hT=>cases r1<;>exact False.elim hT
    | some f0=>
     simp only at e
     have hT:=hts s3 H3 pins
     match ifs,hT with
     | [c0],hT=>
      have hv:f0 (ts++cs)= .ok (.bl true)∧(fe (ts++cs)= .ok x'∨ ∃ l,fe (ts++cs)= .ow l∧x'= .lst l):=by
       cases z:f0 (ts++cs) with
       | ok dd=>
        rw [z] at e
        cases dd<;>try (cases e)
        rename_i bb
        cases bb with
        | false=>simp only at e;cases e
        | true=>
         simp only at e
         refine⟨rfl, ?_⟩
         cases z':fe (ts++cs) with
         | ok dd=>rw [z'] at e;cases e;exact .inl rfl
         | ow l=>rw [z'] at e;cases e;exact .inr ⟨l,rfl,rfl⟩
         | ex _=>rw [z'] at e;cases e
         | bad=>rw [z'] at e;cases e
       | ow _=>rw [z] at e;cases e
       | ex _=>rw [z] at e;cases e
       | bad=>rw [z] at e;cases e
      refine wpAny_tests_one (L2.thn (MT.val (X:=cX X N' sc s3 H3 fp pins) hT I8 sp7.gh (sl8.up lH) xpF hv.1) fun ok s9 hz_=> ?_)
      obtain⟨eb,G9,H9,I9,sp9⟩:=hz_
      subst eb
      exact iteT (elem x' all' I9 sp9 hv.2 hgo' hrest)
     | [],hT=>exact hT.elim
     | _::_::_,hT=>exact hT.elim
  ·-- the end
   have ei:i=ds.length:=by omega
   subst ei
   rw [List.drop_length] at go5
   cases go5
   rw [List.append_nil] at eq5
   subst eq5
   refine L2.thn (T.done (cX X N' sc s3 H3 fp pins) rfl rfl rfl hc ds.length [] s5 σ5 H5 (fun _ _=>False) I5 (stat fr5) st5 (hit.stop G5 H5 sp5)) fun r s6 hz_=> ?_
   obtain⟨hr,I6⟩:=hz_
   subst hr
   exact hEnd s3 s6 H3 H5 G5 σ5 D vs I3 f3 I6 sp5 hD gD5 hD5 r5
 exact codeAny_compStart_list (loop _ rfl) (T.self _ 0 _ _ _ st4 (loop _ rfl))
theorem eC {C:Ctx} {cs:List Nat} {nt:Nat} (hxs:xs.length=nt) (hN:X.N=C.N) (hcs:mapO (fun x=>capLoc C x) (frees sc)=some cs) (hfr: ∀ x∈frees sc,(x,NameKind.free)∈sc.names) (hS:SL X.K ad G H ρ σ) (hlen:σ.length=X.N.length):
  ∃ σc:St,σc.length=(xs++frees sc).length∧(∀ (i:Nat) (x:Str) (v:V),(xs++frees sc)[i]? =some x→σc[i]? =some (some v)→ ∃ j:Nat,X.N[j]? =some x∧σ[j]? =some (some v)∧(x,NameKind.free)∈sc.names)∧
   SL X.K ad G H (List.replicate nt .no++caps cs ρ) σc:=by
 have key: ∀ (ys:List Str) (js:List Nat),mapO (fun x=>capLoc C x) ys=some js→js.length=ys.length∧ ∀ (i:Nat) (y:Str),ys[i]? =some y→ ∃ j,js[i]? =some j∧C.N[j]? =some y:=by
  intro ys
  induction ys with
  | nil=>intro js e;cases e;exact⟨rfl,fun i y h=>by simp at h⟩
  | cons y r ih=>
   intro js e
   unfold mapO at e
   cases e1:capLoc C y with
   | none=>rw [e1] at e;cases e
   | some j=>
    rw [e1] at e
    obtain⟨js',e2,e3⟩:=zMd e
    subst e3
    obtain⟨i1,i2⟩:=ih js' e2
    refine⟨by simp [i1],fun i z h=> ?_⟩
    cases i with
    | zero=>
     simp at h
     subst h
     refine⟨j,rfl, ?_⟩
     have hidx:idx y C.N=some j:=by
      unfold capLoc at e1
      split at e1
      ·exact e1
      ·exact e1
      ·cases e1
     exact bE hidx
    | succ i=>
     obtain⟨j',h1,h2⟩:=i2 i z (by simpa using h)
     exact⟨j',by simpa using h1,h2⟩
 obtain⟨k1,k2⟩:=key (frees sc) cs hcs
 refine⟨List.replicate nt none++cs.map (fun j=>(σ[j]?).getD none),by simp [k1,hxs],fun i x v h1 h2=> ?_, ?_,fun i sl e=> ?_⟩
 ·by_cases hi:i<nt
  ·rw [List.getElem?_append_left (by simpa using hi),List.getElem?_replicate,if_pos hi] at h2
   cases h2
  ·rw [List.getElem?_append_right (by simpa using hi),List.length_replicate,List.getElem?_map] at h2
   rw [List.getElem?_append_right (by omega),hxs] at h1
   obtain⟨j,j1,j2⟩:=k2 (i - nt) x h1
   rw [j1] at h2
   have h3:(σ[j]?).getD none=some v:=Option.some.inj h2
   refine⟨j,by rw [hN];exact j2, ?_,hfr x (List.mem_of_getElem? h1)⟩
   cases q:σ[j]? with
   | none=>rw [q] at h3;cases h3
   | some ov=>rw [q] at h3;exact congrArg some h3
 ·simp [caps]
 ·by_cases hi:i<nt
  ·rw [List.getElem?_append_left (by simpa using hi),List.getElem?_replicate,if_pos hi] at e
   cases e
   refine⟨none, ?_,trivial⟩
   rw [List.getElem?_append_left (by simpa using hi),List.getElem?_replicate,if_pos hi]
  ·rw [List.getElem?_append_right (by simpa using hi),List.length_replicate] at e
   unfold caps at e
   rw [List.getElem?_map] at e
   cases q:cs[i - nt]? with
   | none=>rw [q] at e;cases e
   | some j=>
    rw [q] at e
    have e':(ρ[j]?).getD .no=sl:=Option.some.inj e
    refine⟨(σ[j]?).getD none, ?_, ?_⟩
    ·rw [List.getElem?_append_right (by simpa using hi),List.length_replicate,List.getElem?_map,q]
     rfl
    ·cases q2:ρ[j]? with
     | none=>rw [q2] at e';subst e';trivial
     | some sl'=>
      rw [q2] at e'
      have e'':sl'=sl:=e'
      subst e''
      obtain⟨ov,z1,z2⟩:=hS.at_ j sl' q2
      rw [z1]
      exact z2
end
section
variable {X:Cx} {ad:Ad} {pins:List (Addr×Obj)} {s s2 s3:Shared} {σ:St} {H H2 H3 G G2:Hp} {ρ:Rho} {Q:VK} {E:Nat→Hp→Prop} {pos:Pos} {sc:Scope} {N':List Str} {fp:List Addr}
 {tg it elt:Expr} {ifs:List Expr} {k nt:Nat} {xs:List Str} {cs:List Nat} {fc:Option F} {fi fe:F}
theorem noSet (h: ∀ a b c,it≠ .Set a b c): ∀ x,foldedSetIterable it X.env x=pure x:=by
 intro x
 cases it<;>first | rfl | exact absurd rfl (h _ _ _)
structure CompSc (X:Cx) (C:Ctx) (sc:Scope) (xs:List Str) (cs:List Nat):Prop where
 kind:sc.kind= .function
 cell:Cel sc
 names: ∀ y∈sc.names,y.2= .local→sc.names.lookup y.1=some .local
 fre: ∀ x,(x,NameKind.free)∈sc.names→X.env.kindOf x=some .cell∨X.env.kindOf x=some .free
 frl: ∀ x,(x,NameKind.free)∈sc.names→sc.names.lookup x=some .free
 N:X.N=C.N
 cs:mapO (fun x=>capLoc C x) (frees sc)=some cs
theorem fU {x:Str} (h:x∈frees sc):(x,NameKind.free)∈sc.names:=by
 unfold frees at h
 obtain⟨p,hp,rfl⟩:=List.mem_map.mp h
 obtain⟨h1,h2⟩:=List.mem_filter.mp hp
 obtain⟨y,kk⟩:=p
 have:kk= .free:=by simpa using h2
 subst this
 exact h1
theorem v5 {W:It→Hp→Prop} (hr:RK X.K ad G H (rComp k cs fi fc fe ρ) Q E)
  (q: ∀ J G2 H2 ds all,Step G H G2 H2→ItH X ad J G2 H2 ds→compGo (compF k (caps cs ρ) fc fe) ds=some all→RK X.K ad G2 H2 (.ow all) Q E→W J H2):IK X ad G H (fi ρ) W E:=by
 unfold rComp at hr
 cases e:fi ρ with
 | ok d=>
  rw [e] at hr
  have hr':RK X.K ad G H (match items d with | some ds=>(match compGo (compF k (caps cs ρ) fc fe) ds with | some xs=> .ow xs | none=> .bad) | none=> .bad) Q E:=hr
  cases e2:items d with
  | none=>rw [e2] at hr';exact hr'.elim
  | some ds=>
   rw [e2] at hr'
   have hr2:RK X.K ad G H (match compGo (compF k (caps cs ρ) fc fe) ds with | some xs=> .ow xs | none=> .bad) Q E:=hr'
   cases e3:compGo (compF k (caps cs ρ) fc fe) ds with
   | none=>rw [e3] at hr2;exact hr2.elim
   | some all=>
    rw [e3] at hr2
    exact⟨ds,e2,fun J G' H' st hi=>q J G' H' ds all st hi e3 (RK.step hr2 st)⟩
 | ow l=>
  rw [e] at hr
  have hr2:RK X.K ad G H (match compGo (compF k (caps cs ρ) fc fe) l with | some xs=> .ow xs | none=> .bad) Q E:=hr
  cases e3:compGo (compF k (caps cs ρ) fc fe) l with
  | none=>rw [e3] at hr2;exact hr2.elim
  | some all=>
   rw [e3] at hr2
   exact fun J G' H' st hi=>q J G' H' l all st hi e3 (RK.step hr2 st)
 | ex c=>rw [e] at hr;exact hr
 | bad=>rw [e] at hr;exact hr
theorem rS {C:Ctx} (hc:X.calm=true) (S:CompSc X C sc xs cs) (hi:MI X ad tg it fi) (hset: ∀ a b c,it≠ .Set a b c) (hxs:xs.length=if k=0 then 1 else k)
  (hg: ∀ fp s3 H3 pins',PG (cX X (xs++frees sc) sc s3 H3 fp pins') tg (gTg X.K k)) (hts: ∀ fp s3 H3 pins',MTs (cX X (xs++frees sc) sc s3 H3 fp pins') ad ifs fc) (he: ∀ fp s3 H3 pins',ME (cX X (xs++frees sc) sc s3 H3 fp pins') ad elt fe):
  ME X ad (.ListComp elt [⟨tg,it,ifs,0⟩] sc pos) (rComp k cs fi fc fe):=by
 intro pins s σ H Q I ⟨G,ρ,E,hG,hS,hx,hr⟩
 rw [eval_ListComp]
 have hcl:closureFor sc X.env=pure (clOf X.env.cells sc.names []):=cF fun x hx=>by
  obtain⟨c,h⟩:=I.ok.has x (S.fre x hx)
  rw [h];rfl
 refine wpAny_comprehension_free (use:=none) rfl (noSet hset) hcl S.kind S.names ?_
 show wpAny (model X.prog X.w) X.A (eval it X.env) _ X.xe s
 refine L2.thn (hi pins s σ H _ I ⟨G,ρ,E,hG,hS,hx,v5 (W:=fun J H2=> ∃ G2 ds all,Step G H G2 H2∧ItH X ad J G2 H2 ds∧compGo (compF k (caps cs ρ) fc fe) ds=some all∧RK X.K ad G2 H2 (.ow all) Q E) hr fun J G2 H2 ds all a b c d=>⟨G2,ds,all,a,b,c,d⟩⟩) fun v s1 h1=>
  L2.thn h1 fun itv s2 hz_=> ?_
 obtain⟨itA,fp,tn,J,H2,e,I2,T,st2,f2,G2,ds,all,sp,hit,hgo,hr2⟩:=hz_
 subst e
 obtain⟨σc,l1,l2,l3⟩:=eC (xs:=xs) (sc:=sc) (nt:=if k=0 then 1 else k) hxs S.N S.cs (fun x h=>fU h) (hS.step sp) I2.len
 refine fT (σc:=σc) hc I2 T st2 f2 hit hgo sp.gh S.kind S.cell S.fre S.frl l1 l2 rfl l3 (hg fp) (hts fp) (he fp) fun s3 s' H3 H' G' σ' D vs I3 f3 J' sp' hD gD hD' r'=> ?_
 obtain⟨m,hns,_⟩:=J'.loc
 refine⟨m,hns,fun h' sb=>⟨.ref D,H',p8 (fpO:=f3) I3 J' sb,rfl,hr2 D vs G' H' sp' hD gD hD' r'⟩⟩
theorem rT {a:Addr} {vs:List V} {ds:List D} (hq:SqT X.K H a vs) (r:Reps X.K ad G ds vs) (hG:Same G H) (few:vs.length≤sizeLine):ItH X ad (Itt X.K a) G H ds:=by
 refine⟨fun i G1 H1 d st e=> ?_,fun G1 H1 st=>⟨vs,st.sh.seqT hq,by rw [r.length];exact Nat.le_refl _⟩,by rw [←r.length];exact few⟩
 obtain⟨v,e1,r1⟩:=r.get e
 refine⟨⟨vs,v,st.sh.seqT hq,e1⟩, ?_⟩
 rintro x H2 ⟨rfl,y⟩
 have:=y vs (st.sh.seqT hq)
 rw [e1] at this
 cases this
 exact⟨G1,Step.refl st.gh,r1.mono st.sg⟩
theorem rV {a:Addr} {vs:List V} {ds:List D} (hq:SqL X.K H a vs) (r:Reps X.K ad G ds vs) (hG:Same G H) (few:vs.length≤sizeLine):ItH X ad (Itl X.K a) G H ds:=by
 refine⟨fun i G1 H1 d st e=> ?_,fun G1 H1 st=>⟨vs,st.sh.seq hq,by rw [r.length];exact Nat.le_refl _⟩,by rw [←r.length];exact few⟩
 obtain⟨v,e1,r1⟩:=r.get e
 refine⟨⟨vs,v,st.sh.seq hq,e1⟩, ?_⟩
 rintro x H2 ⟨rfl,y⟩
 have:=y vs (st.sh.seq hq)
 rw [e1] at this
 cases this
 exact⟨G1,Step.refl st.gh,r1.mono st.sg⟩
theorem iT {a:Expr} {f:F} (ha:ML X ad a f):MI X ad tg a f:=by
 intro pins s σ H W I ⟨G,ρ,E,hG,hS,hx,hr⟩
 -- the value, then its iterator
 have key: ∀ (d:D) (ds:List D),items d=some ds→(∀ J G' H',Step G H G' H'→ItH X ad J G' H' ds→W J H')→ ∀ u s1 v H1 G1,Inv X pins σ H1 s1→RelV v u→Step G H G1 H1→Seq X ad G1 H1 d v→wpAny (model X.prog X.w) X.A (pyIter u) (PIE X pins σ tg W) X.xe s1:=by
  intro d ds e hw u s1 v H1 G1 I1 r1 st q
  obtain⟨p,vs,rfl,hq,rq⟩:=q.items st.gh e
  cases (show u=Value.ref p from r1)
  rcases hq with ⟨_,hq⟩ | ⟨_,hq⟩
  ·obtain⟨its,rv,pt,hz⟩:=I1.tuple hq
   refine wpAny_pyIter_tuple (show s1.heap.IsTuple p its.toArray from pt) ?_
   refine⟨s1.heap.objs.size,[s1.heap.objs.size],_,_,H1,rfl,I1.kept (t':=s1.toks) fun b o e=>Heap.get?_push_of_some _ e,d7 p _,⟨_,Heap.get?_push_size _ rfl,rfl,rfl⟩,fun b hb=> ?_,hw _ G1 H1 st (rT hq rq st.gh hz)⟩
   have e:b=s1.heap.objs.size:=by simpa using hb
   subst e
   exact I1.fpOk (Nat.le_refl _) (I1.hok.fresh (Nat.le_refl _))
  ·obtain⟨its,rv,pt,hz⟩:=I1.list hq
   refine wpAny_pyIter_list pt.isList ?_
   refine⟨s1.heap.objs.size,[s1.heap.objs.size],_,_,H1,rfl,I1.kept (t':=s1.toks) fun b o e=>Heap.get?_push_of_some _ e,dB p _,⟨_,Heap.get?_push_size _ rfl,rfl,rfl⟩,fun b hb=> ?_,hw _ G1 H1 st (rV hq rq st.gh hz)⟩
   have e:b=s1.heap.objs.size:=by simpa using hb
   subst e
   exact I1.fpOk (Nat.le_refl _) (I1.hok.fresh (Nat.le_refl _))
 cases e:f ρ with
 | ok d=>
  rw [e] at hr
  obtain⟨ds,e2,hw⟩:=hr
  exact L2.thn (ha pins s σ H (fun v H1=> ∃ G1,Step G H G1 H1∧Seq X ad G1 H1 d v) I ⟨G,ρ,E,hG,hS,hx,by rw [e];exact fun v G1 H1 st q=>⟨G1,st,q⟩⟩) fun u s1 ⟨v,H1,I1,r1,G1,st,q⟩=>key d ds e2 hw u s1 v H1 G1 I1 r1 st q
 | ow l=>
  rw [e] at hr
  exact L2.thn (ha pins s σ H (fun v H1=> ∃ G1,Step G H G1 H1∧Rep X.K ad G1 (.lst l) v) I ⟨G,ρ,E,hG,hS,hx,by rw [e];exact fun p vs G1 H1 st n m e' q=>aO st n m e' q⟩) fun u s1 ⟨v,H1,I1,r1,G1,st,q⟩=>key (.lst l) l rfl hr u s1 v H1 G1 I1 r1 st (.inl q)
 | ex c=>
  rw [e] at hr
  exact L2.thn (ha pins s σ H (fun v H1=>False) I ⟨G,ρ,E,hG,hS,hx,by rw [e];exact hr⟩) fun u s1 ⟨v,H1,I1,r1,q⟩=>q.elim
 | bad=>
  rw [e] at hr
  exact False.elim hr
theorem rW {lo:Int} {n:Nat} (hG:Same G H) (few:n≤sizeLine):ItH X ad (Itr lo n) G H ((List.range n).map fun(i:Nat)=>D.int (lo+(i:Int))):=by
 refine⟨fun i G1 H1 d st e=> ?_,fun G1 H1 st=>by simp [Itr],by simpa using few⟩
 rw [List.getElem?_map] at e
 cases q:(List.range n)[i]? with
 | none=>rw [q] at e;cases e
 | some j=>
  rw [q] at e
  obtain⟨hi,hj⟩:=List.getElem?_eq_some_iff.mp q
  rw [List.length_range] at hi
  rw [List.getElem_range] at hj
  subst hj
  cases e
  refine⟨hi, ?_⟩
  rintro x H2 ⟨rfl,rfl⟩
  exact⟨G1,Step.refl st.gh,aD⟩
theorem lJ (n:Nat):rngD n=(List.range n).map fun(i:Nat)=>D.int (0+(i:Int)):=by
 unfold rngD
 congr 1
 funext i
 rw [Int.zero_add]
theorem lK {f:F} {k:D→R} {W:It→Hp→Prop} {Q':VK} (hG:Same G H) (hS:SL X.K ad G H ρ σ) (hx:XP X ad σ E) (hr:IK X ad G H ((f ρ).bind k) W E)
  (q: ∀ v d G1 H1,Step G H G1 H1→Rep X.K ad G1 d v→IK X ad G1 H1 (k d) W E→Q' v H1):tE X ad f σ H Q':=by
 have ikst: ∀ {r:R} {G1 H1:Hp},IK X ad G H r W E→Step G H G1 H1→IK X ad G1 H1 r W E:=fun {r G1 H1} h st=>by
  cases r with
  | ok d=>obtain⟨ds,e,h⟩:=h;exact⟨ds,e,fun J G' H' st' hi=>h J G' H' (st.trans st') hi⟩
  | ow l=>exact fun J G' H' st' hi=>h J G' H' (st.trans st') hi
  | ex c=>exact fun G' H' st'=>h G' H' (st.trans st')
  | bad=>exact h
 refine⟨G,ρ,E,hG,hS,hx, ?_⟩
 cases e:f ρ with
 | ok d=>
  rw [e] at hr
  exact fun v G1 H1 st r=>q v d G1 H1 st r (ikst hr st)
 | ow xs=>
  rw [e] at hr
  intro p vs G1 H1 st n m e' r
  obtain⟨G2,st2,r2⟩:=aO (X:=X) (ad:=ad) st n m e' r
  exact q _ _ G2 H1 st2 r2 (ikst hr st2)
 | ex c=>
  rw [e] at hr
  exact hr
 | bad=>
  rw [e] at hr
  exact hr
theorem oA {a:Expr} {f:F} {p:Pos} (hg:L2.Gl X "range") (hm:X.mg "range"=none) (ha:ME X ad a f) (hs:starEach [a] X.env=(false,eval a X.env)::starEach [] X.env):MI X ad tg (.Call (.Name "range" p) [a] [] pos) (iRange f):=by
 intro pins s σ H W I ⟨G,ρ,E,hG,hS,hx,hr⟩
 refine e9 (ta:=tCons (tE X ad f) tNil) hg hm (aQ ha bA hs) hs pins s σ H W I ?_
 show tE X ad f σ H fun v H1=> ∃ j:Int,[v]=[.int j]∧ -(2 ^ 62)≤j∧j<2 ^ 62∧W (Itr 0 j.toNat) H1
 refine lK hG hS hx hr fun v d G1 H1 st r k=> ?_
 cases d<;>try exact False.elim k
 rename_i i
 unfold Rep at r;subst r
 have k':IK X ad G1 H1 (if -100000≤i∧i≤100000 then .ok (.lst (rngD i.toNat)) else .bad) W E:=k
 by_cases hc: -100000≤i∧i≤100000
 ·rw [if_pos hc] at k'
  obtain⟨ds,e,hw⟩:=k'
  cases e
  refine⟨i,rfl,by omega,by omega,hw _ G1 H1 (Step.refl st.gh) ?_⟩
  rw [lJ]
  exact rW st.gh (by rw [sizeLine_eq];omega)
 ·rw [if_neg hc] at k'
  exact k'.elim
end
structure SS (X:Cx) (ad:Ad) (G₀ G H:Hp) (ρ:Rho) (σ:St):Prop where
 st:Step G₀ X.H₀ G H
 sl:SL X.K ad G H ρ σ
 ow: ∀ (i:Nat) (sl:Slot) (a:Addr),ρ[i]? =some sl→sl.owns=true→σ[i]? =some (some (.ref a))→X.H₀ a=none
 dj: ∀ (i j:Nat) (sl sl':Slot) (a:Addr),ρ[i]? =some sl→ρ[j]? =some sl'→sl.owns=true→sl'.owns=true→σ[i]? =some (some (.ref a))→σ[j]? =some (some (.ref a))→i=j
def OKo (X:Cx) (ad:Ad) (G₀:Hp) (o:Out) (D':Ends) (E:St→Nat→Hp→Prop):Prop:=match o with
 | .nx ρ=> ∀ σ G H,SS X ad G₀ G H ρ σ→D'.nx σ H
 | .bk ρ=> ∀ σ G H,SS X ad G₀ G H ρ σ→D'.bk σ H
 | .ct ρ=> ∀ σ G H,SS X ad G₀ G H ρ σ→D'.ct σ H
 | .ex c ρ=> ∀ σ G H,SS X ad G₀ G H ρ σ→E σ c H
 | .rt (.ok d)=> ∀ v G H,Step G₀ X.H₀ G H→Rep X.K ad G d v→D'.rt v H
 | .rt (.ow xs)=> ∀ p vs G H,Step G₀ X.H₀ G H→X.H₀ p=none→G p=none→H p=some (.lst vs)→Reps X.K ad G xs vs→D'.rt (.ref p) H
 | .rt _=>False
def XA (X:Cx) (ad:Ad) (Z:(St→Nat→Hp→Prop)→Prop) (E:St→Nat→Hp→Prop):Prop:=(∀ σ,XP X ad σ (E σ))∧Z E
noncomputable def tS (X:Cx) (ad:Ad) (Z:(St→Nat→Hp→Prop)→Prop) (g:FS):TS:=fun D' σ H=> ∃ G₀ G ρ E,SS X ad G₀ G H ρ σ∧XA X ad Z E∧OKo X ad G₀ (g ρ) D' E
abbrev MS (X:Cx) (ad:Ad) (Z:(St→Nat→Hp→Prop)→Prop) (st:Stmt) (g:FS):Prop:=PS X st (tS X ad Z g)
abbrev MSs (X:Cx) (ad:Ad) (Z:(St→Nat→Hp→Prop)→Prop) (st:List Stmt) (g:FS):Prop:=PSs X st (tS X ad Z g)
section
variable {X:Cx} {ad:Ad} {Z:(St→Nat→Hp→Prop)→Prop} {pins:List (Addr×Obj)} {s:Shared} {σ:St} {H G G₀:Hp} {ρ:Rho} {D':Ends} {E:St→Nat→Hp→Prop} {pos pos':Pos} {e:Expr} {f:F} {g h:FS} {st:Stmt} {sts:List Stmt}
theorem SS.step {G1 H1:Hp} (S:SS X ad G₀ G H ρ σ) (t:Step G H G1 H1):SS X ad G₀ G1 H1 ρ σ:=⟨S.st.trans t,S.sl.step t,S.ow,S.dj⟩
theorem cG {G₀ Gs G H H₀ Hs:Hp} (a:Step G₀ H₀ Gs Hs) (b:Step Gs H₀ G H):Step G₀ H₀ G H:=
 ⟨a.sg.trans b.sg,b.gh,b.sh,fun x h1 h2=>by
  cases q:Gs x with
  | none=>exact b.nw x q h2
  | some o=>exact a.nw x h1 (by rw [q];exact fun z=>nomatch z)⟩
theorem SS.up {Gs Hs:Hp} (a:Step G₀ X.H₀ Gs Hs) (S:SS X ad Gs G H ρ σ):SS X ad G₀ G H ρ σ:=⟨cG a S.st,S.sl,S.ow,S.dj⟩
theorem SS.here (S:SS X ad G₀ G H ρ σ):SS X ad G G H ρ σ:=⟨⟨Same.refl _,S.st.gh,S.st.sh,fun b h1 h2=>absurd h1 h2⟩,S.sl,S.ow,S.dj⟩
theorem OKo.rebase {o:Out} {Gs Hs:Hp} (h:OKo X ad G₀ o D' E) (a:Step G₀ X.H₀ Gs Hs):OKo X ad Gs o D' E:=by
 cases o with
 | nx ρ=>exact fun σ G H S=>h σ G H (S.up a)
 | bk ρ=>exact fun σ G H S=>h σ G H (S.up a)
 | ct ρ=>exact fun σ G H S=>h σ G H (S.up a)
 | ex c ρ=>exact fun σ G H S=>h σ G H (S.up a)
 | rt r=>
  cases r with
  | ok d=>exact fun v G H st q=>h v G H (cG a st) q
  | ow xs=>exact fun p vs G H st n m e q=>h p vs G H (cG a st) n m e q
  | ex c=>exact h
  | bad=>exact h
theorem aT {k:D→Out} {Q':VK} (S:SS X ad G₀ G H ρ σ) (hx:XA X ad Z E) (hr:OKo X ad G₀ (outR ρ (f ρ) k) D' E)
  (q: ∀ v d G1 H1,Step G H G1 H1→Rep X.K ad G1 d v→OKo X ad G₀ (k d) D' E→Q' v H1):tE X ad f σ H Q':=by
 refine⟨G,ρ,E σ,S.st.gh,S.sl,hx.1 σ, ?_⟩
 unfold outR at hr
 cases e:f ρ with
 | ok d=>rw [e] at hr;exact fun v G1 H1 st r=>q v d G1 H1 st r hr
 | ow xs=>
  rw [e] at hr
  intro p vs G1 H1 st n m e' r
  obtain⟨G2,st2,r2⟩:=aO (X:=X) (ad:=ad) st n m e' r
  exact q _ _ G2 H1 st2 r2 hr
 | ex c=>rw [e] at hr;exact fun G1 H1 st=>hr σ G1 H1 (S.step st)
 | bad=>rw [e] at hr;exact hr
theorem rX:MS X ad Z (.Pass pos) sPass:=PS.imp qP fun D' σ H ⟨G₀,G,ρ,E,S,hx,hr⟩=>hr σ G H S
theorem oB:MS X ad Z (.Break pos) sBrk:=PS.imp nO fun D' σ H ⟨G₀,G,ρ,E,S,hx,hr⟩=>hr σ G H S
theorem g0:MS X ad Z (.Continue pos) sCont:=PS.imp gK fun D' σ H ⟨G₀,G,ρ,E,S,hx,hr⟩=>hr σ G H S
theorem g8:MSs X ad Z [] sPass:=PSs.imp qO fun D' σ H ⟨G₀,G,ρ,E,S,hx,hr⟩=>hr σ G H S
theorem rY (h1:MS X ad Z st g):MSs X ad Z [st] g:=gJ h1
theorem iU (h1:MS X ad Z st g) (h2:MSs X ad Z sts h):MSs X ad Z (st::sts) (sSeq g h):=by
 refine PSs.imp (nN h1 h2) ?_
 rintro D' σ H ⟨G₀,G,ρ,E,S,hx,hr⟩
 refine⟨G₀,G,ρ,E,S,hx, ?_⟩
 unfold sSeq at hr
 cases e:g ρ with
 | nx ρ'=>rw [e] at hr;exact fun σ' G' H' S'=>⟨G₀,G',ρ',E,S',hx,hr⟩
 | bk ρ'=>rw [e] at hr;exact hr
 | ct ρ'=>rw [e] at hr;exact hr
 | ex c ρ'=>rw [e] at hr;exact hr
 | rt r=>
  rw [e] at hr
  cases r<;>exact hr
theorem iV (he:ME X ad e f):MS X ad Z (.Return (some e) pos) (sRet f):=by
 refine PS.imp (kF he) ?_
 rintro D' σ H ⟨G₀,G,ρ,E,S,hx,hr⟩
 refine⟨G,ρ,E σ,S.st.gh,S.sl,hx.1 σ, ?_⟩
 unfold sRet at hr
 cases e:f ρ with
 | ok d=>rw [e] at hr;exact fun v G1 H1 st r=>hr v G1 H1 (S.st.trans st) r
 | ow xs=>rw [e] at hr;exact fun p vs G1 H1 st n m e' r=>hr p vs G1 H1 (S.st.trans st) (S.st.sh.free n) m e' r
 | ex c=>rw [e] at hr;exact fun G1 H1 st=>hr σ G1 H1 (S.step st)
 | bad=>rw [e] at hr;exact hr
theorem rZ:MS X ad Z (.Return none pos) sRetN:=PS.imp qQ fun D' σ H ⟨G₀,G,ρ,E,S,hx,hr⟩=>hr .non G H S.st (by unfold Rep;rfl)
theorem r8 {i:Nat} {x:Str} {p:Pos} (hN:X.N[i]? =some x) (hv:Vis X.env.scope x) (hd:(x==("__debug__":Str))=false) (hcd:(x==("__classdict__":Str))=false):MS X ad Z (.Return (some (.Name x p)) pos) (sRet (rGive i)):=by
 refine PS.imp (kF (aS hN hv hd hcd)) ?_
 rintro D' σ H ⟨G₀,G,ρ,E,S,hx,hr⟩
 unfold sRet rGive at hr
 cases e:ρ[i]? with
 | none=>rw [e] at hr;exact hr.elim
 | some sl=>
  rw [e] at hr
  cases sl with
  | no=>exact hr.elim
  | dc kvs=>exact hr.elim
  | sd kvs=>exact hr.elim
  | sh d=>
   obtain⟨v,h1,h2⟩:=S.sl.sh e
   exact⟨v,h1,hr v G H S.st h2⟩
  | ow xs=>
   obtain⟨a,vs,h1,h2,h3,h4⟩:=S.sl.ow e
   exact⟨.ref a,h1,hr a vs G H S.st (S.ow i _ a e rfl h1) h2 h3 h4⟩
theorem sA (he:ME X ad e f) (hs:swapsWith e none pos.line X.env=pure false):MS X ad Z (.Expr e pos) (sDrop f):=by
 refine PS.imp (dA he hs) ?_
 rintro D' σ H ⟨G₀,G,ρ,E,S,hx,hr⟩
 exact aT S hx hr fun v d G1 H1 st r k=>k σ G1 H1 (S.step st)
theorem SS.set {i:Nat} {d:D} {v:V} (S:SS X ad G₀ G H ρ σ) (r:Rep X.K ad G d v):SS X ad G₀ G H (ρ.set i (.sh d)) (σ.set i (some v)):=by
 have key: ∀ (j:Nat) (sl:Slot),(ρ.set i (.sh d))[j]? =some sl→(j=i∧sl= .sh d∧i<ρ.length)∨(j≠i∧ρ[j]? =some sl):=fun j sl e=>by
  by_cases z:j=i
  ·subst z
   have hl:j<ρ.length:=by have:=(List.getElem?_eq_some_iff.mp e).1;rwa [List.length_set] at this
   rw [List.getElem?_set_self hl] at e
   cases e
   exact .inl ⟨rfl,rfl,hl⟩
  ·rw [List.getElem?_set_ne (Ne.symm z)] at e
   exact .inr ⟨z,e⟩
 refine⟨S.st,⟨by rw [List.length_set,List.length_set];exact S.sl.len,fun j sl e=> ?_⟩,fun j xs a e w h=> ?_,fun j j' xs ys a e e' w w' h h'=> ?_⟩
 ·rcases key j sl e with ⟨rfl,rfl,hl⟩ | ⟨z,e⟩
  ·exact⟨some v,List.getElem?_set_self (by rw [←S.sl.len];exact hl),v,rfl,r⟩
  ·obtain⟨ov,h1,h2⟩:=S.sl.at_ j sl e
   exact⟨ov,by rw [List.getElem?_set_ne (Ne.symm z)];exact h1,h2⟩
 ·rcases key j _ e with ⟨_,z,_⟩ | ⟨z,e⟩
  ·subst z;exact(Bool.false_ne_true w).elim
  ·rw [List.getElem?_set_ne (Ne.symm z)] at h
   exact S.ow j xs a e w h
 ·rcases key j _ e with ⟨_,z,_⟩ | ⟨z,e⟩
  ·subst z;exact(Bool.false_ne_true w).elim
  ·rcases key j' _ e' with ⟨_,z',_⟩ | ⟨z',e'⟩
   ·subst z';exact(Bool.false_ne_true w').elim
   ·rw [List.getElem?_set_ne (Ne.symm z)] at h
    rw [List.getElem?_set_ne (Ne.symm z')] at h'
    exact S.dj j j' xs ys a e e' w w' h h'
theorem SL.own_at {K:PySem.W.Frag} {j:Nat} {sl:Slot} {p:Addr} (h:SL K ad G H ρ σ) (e:ρ[j]? =some sl) (w:sl.owns=true) (hj:σ[j]? =some (some (.ref p))):G p=none∧H p≠none:=by
 obtain⟨ov,h1,h2⟩:=h.at_ j sl e
 rw [hj] at h1
 cases h1
 cases sl with
 | no=>exact(Bool.false_ne_true w).elim
 | sh d=>exact(Bool.false_ne_true w).elim
 | sd d=>exact(Bool.false_ne_true w).elim
 | ow xs=>obtain⟨a,vs,k1,k2,k3,_⟩:=h2;cases k1;exact⟨k2,by rw [k3];exact fun z=>nomatch z⟩
 | dc xs=>obtain⟨a,vs,k1,k2,k3,_⟩:=h2;cases k1;exact⟨k2,by rw [k3];exact fun z=>nomatch z⟩
theorem SS.setNew {i:Nat} {sn:Slot} {p:Addr} {G1 H1:Hp} (S:SS X ad G₀ G H ρ σ) (st:Step G H G1 H1) (n:H p=none) (r:SLi X.K ad G1 H1 sn (some (.ref p))):
  SS X ad G₀ G1 H1 (ρ.set i sn) (σ.set i (some (.ref p))):=by
 have S1:=S.step st
 have key: ∀ (j:Nat) (sl:Slot),(ρ.set i sn)[j]? =some sl→(j=i∧sl=sn∧i<ρ.length)∨(j≠i∧ρ[j]? =some sl):=fun j sl e=>by
  by_cases z:j=i
  ·subst z
   have hl:j<ρ.length:=by have:=(List.getElem?_eq_some_iff.mp e).1;rwa [List.length_set] at this
   rw [List.getElem?_set_self hl] at e
   cases e
   exact .inl ⟨rfl,rfl,hl⟩
  ·rw [List.getElem?_set_ne (Ne.symm z)] at e
   exact .inr ⟨z,e⟩
 -- no other slot holds the new list
 have other: ∀ (j:Nat) (sl:Slot),ρ[j]? =some sl→sl.owns=true→σ[j]? ≠some (some (.ref p)):=fun j sl ej w hj=>(S.sl.own_at ej w hj).2 n
 refine⟨S1.st,⟨by rw [List.length_set,List.length_set];exact S.sl.len,fun j sl e'=> ?_⟩,fun j ys a e' w h=> ?_,fun j j' ys zs a e1 e2 w1 w2 h1 h2=> ?_⟩
 ·rcases key j sl e' with ⟨q1,q2,hl⟩ | ⟨z,e'⟩
  ·rw [q1,q2]
   exact⟨some (.ref p),List.getElem?_set_self (by rw [←S.sl.len];exact hl),r⟩
  ·obtain⟨ov,h1,h2⟩:=S1.sl.at_ j sl e'
   exact⟨ov,by rw [List.getElem?_set_ne (Ne.symm z)];exact h1,h2⟩
 ·rcases key j _ e' with ⟨q1,_,hl⟩ | ⟨z,e'⟩
  ·rw [q1,List.getElem?_set_self (by rw [←S.sl.len];exact hl)] at h
   cases h
   exact S.st.sh.free n
  ·rw [List.getElem?_set_ne (Ne.symm z)] at h
   exact S.ow j ys a e' w h
 ·rcases key j _ e1 with ⟨q1,_,hl⟩ | ⟨z,f1⟩
  ·rcases key j' _ e2 with ⟨q2,_,_⟩ | ⟨z',f2⟩
   ·rw [q1,q2]
   ·rw [q1,List.getElem?_set_self (by rw [←S.sl.len];exact hl)] at h1
    cases h1
    rw [List.getElem?_set_ne (Ne.symm z')] at h2
    exact absurd h2 (other j' zs f2 w2)
  ·rcases key j' _ e2 with ⟨q2,_,hl⟩ | ⟨z',f2⟩
   ·rw [q2,List.getElem?_set_self (by rw [←S.sl.len];exact hl)] at h2
    cases h2
    rw [List.getElem?_set_ne (Ne.symm z)] at h1
    exact absurd h1 (other j ys f1 w1)
   ·rw [List.getElem?_set_ne (Ne.symm z)] at h1
    rw [List.getElem?_set_ne (Ne.symm z')] at h2
    exact S.dj j j' ys zs a f1 f2 w1 w2 h1 h2
theorem SS.setOw {i:Nat} {xs:List D} {p:Addr} {vs:List V} {G1 H1:Hp} (S:SS X ad G₀ G H ρ σ) (st:Step G H G1 H1) (n:H p=none) (m:G1 p=none) (e:H1 p=some (.lst vs)) (r:Reps X.K ad G1 xs vs):
  SS X ad G₀ G1 H1 (ρ.set i (.ow xs)) (σ.set i (some (.ref p))):=S.setNew st n ⟨p,vs,rfl,m,e,r⟩
theorem qA {i:Nat} (S:SS X ad G₀ G H ρ σ) (hx:XA X ad Z E) (hr:OKo X ad G₀ (sOwn i f ρ) D' E):tE X ad f σ H fun v H1=>D'.nx (σ.set i (some v)) H1:=by
 refine⟨G,ρ,E σ,S.st.gh,S.sl,hx.1 σ, ?_⟩
 unfold sOwn at hr
 cases e:f ρ with
 | ok d=>rw [e] at hr;exact fun v G1 H1 st r=>hr _ G1 H1 ((S.step st).set r)
 | ow xs=>rw [e] at hr;exact fun p vs G1 H1 st n m e' r=>hr _ G1 H1 (S.setOw st n m e' r)
 | ex c=>rw [e] at hr;exact fun G1 H1 st=>hr σ G1 H1 (S.step st)
 | bad=>rw [e] at hr;exact hr
theorem v6 {c:Expr} {a b:List Stmt} (hc:MT X ad c f) (ha:MSs X ad Z a g) (hb:MSs X ad Z b h):MS X ad Z (.If c a b pos) (sIf f g h):=by
 refine PS.imp (xS hc ha hb) ?_
 rintro D' σ H ⟨G₀,G,ρ,E,S,hx,hr⟩
 unfold sIf at hr
 cases e:f ρ with
 | ok d=>
  rw [e] at hr
  cases d<;>try exact hr.elim
  rename_i k
  refine⟨G,ρ,E σ,S.st.gh,S.sl,hx.1 σ, .inl ⟨k,e⟩, ?_⟩
  rw [e]
  intro v G1 H1 st r
  unfold Rep at r;subst r
  refine⟨k,rfl, ?_⟩
  cases k with
  | true=>exact iteT ⟨G₀,G1,ρ,E,S.step st,hx,hr⟩
  | false=>exact iteF ⟨G₀,G1,ρ,E,S.step st,hx,hr⟩
 | ow xs=>rw [e] at hr;exact hr.elim
 | ex k=>
  rw [e] at hr
  refine⟨G,ρ,E σ,S.st.gh,S.sl,hx.1 σ, .inr ⟨k,e⟩, ?_⟩
  rw [e]
  exact fun G1 H1 st=>hr σ G1 H1 (S.step st)
 | bad=>rw [e] at hr;exact hr.elim
theorem SS.shareG {i:Nat} {sl₀ sn:Slot} {a:Addr} {o:HO} (S:SS X ad G₀ G H ρ σ) (e:ρ[i]? =some sl₀) (w₀:sl₀.owns=true) (h1:σ[i]? =some (some (.ref a))) (h3:H a=some o) (hst:Step G₀ X.H₀ (upd G a o) H) (wn:sn.owns=false)
  (r:SLi X.K ad (upd G a o) H sn (some (.ref a))):SS X ad G₀ (upd G a o) H (ρ.set i sn) σ:=by
 have h2:G a=none:=(S.sl.own_at e w₀ h1).1
 have le:Same G (upd G a o):=Same.upd_new h2
 have hl:i<ρ.length:=(List.getElem?_eq_some_iff.mp e).1
 have key: ∀ (j:Nat) (sl:Slot),(ρ.set i sn)[j]? =some sl→(j=i∧sl=sn)∨(j≠i∧ρ[j]? =some sl):=fun j sl e=>by
  by_cases z:j=i
  ·subst z
   rw [List.getElem?_set_self hl] at e
   cases e
   exact .inl ⟨rfl,rfl⟩
  ·rw [List.getElem?_set_ne (Ne.symm z)] at e
   exact .inr ⟨z,e⟩
 refine⟨hst,⟨by show(ρ.set i _).length=_;rw [List.length_set];exact S.sl.len,fun j sl e'=> ?_⟩,fun j ys b e' w h=> ?_,fun j j' ys zs b e1 e2 w1 w2 k1 k2=> ?_⟩
 ·rcases key j sl e' with ⟨q1,q2⟩ | ⟨z,e'⟩
  ·rw [q1,q2]
   exact⟨some (.ref a),h1,r⟩
  ·obtain⟨ov,k1,k2⟩:=S.sl.at_ j sl e'
   refine⟨ov,k1, ?_⟩
   cases sl with
   | no=>trivial
   | sh d=>obtain⟨v,k3,k4⟩:=k2;exact⟨v,k3,k4.mono le⟩
   | ow ys=>
    obtain⟨b,ws,k3,k4,k5,k6⟩:=k2
    have ne:b≠a:=fun q=>by
     subst q
     subst k3
     exact z (S.dj j i _ _ b e' e rfl w₀ k1 h1)
    exact⟨b,ws,k3,by rw [aA ne];exact k4,k5,k6.mono le⟩
   | dc ys=>
    obtain⟨b,ws,k3,k4,k5,k6,k7⟩:=k2
    have ne:b≠a:=fun q=>by
     subst q
     subst k3
     exact z (S.dj j i _ _ b e' e rfl w₀ k1 h1)
    exact⟨b,ws,k3,by rw [aA ne];exact k4,k5,k6.mono le,k7⟩
   | sd ys=>
    obtain⟨b,ws,k3,k4,k5,k6,k7⟩:=k2
    exact⟨b,ws,k3,le _ _ k4,k5,k6.mono le,k7⟩
 ·rcases key j _ e' with ⟨_,z⟩ | ⟨z,e'⟩
  ·rw [z,wn] at w;exact(Bool.false_ne_true w).elim
  ·exact S.ow j ys b e' w h
 ·rcases key j _ e1 with ⟨_,z⟩ | ⟨z,e1⟩
  ·rw [z,wn] at w1;exact(Bool.false_ne_true w1).elim
  ·rcases key j' _ e2 with ⟨_,z'⟩ | ⟨z',e2⟩
   ·rw [z',wn] at w2;exact(Bool.false_ne_true w2).elim
   ·exact S.dj j j' ys zs b e1 e2 w1 w2 k1 k2
theorem SS.frz1 {i:Nat} (S:SS X ad G₀ G H ρ σ): ∃ G',SS X ad G₀ G' H (SK.frz1 i ρ) σ∧Same G G':=by
 unfold SK.frz1
 cases e:ρ[i]? with
 | none=>exact⟨G,S,Same.refl _⟩
 | some sl=>
  cases sl with
  | no=>exact⟨G,S,Same.refl _⟩
  | sd d=>exact⟨G,S,Same.refl _⟩
  | sh d=>exact⟨G,S,Same.refl _⟩
  | dc kvs=>
   obtain⟨a,es,h1,h2,h3,h4,h5⟩:=S.sl.dc e
   have le:Same G (upd G a (dcO a es)):=Same.upd_new h2
   exact⟨_,S.shareG e rfl h1 h3 (S.st.shareO (S.ow i _ a e rfl h1) h2 h3) rfl ⟨a,es,rfl,aE,h3,h4.mono le,h5⟩,le⟩
  | ow xs=>
   obtain⟨a,vs,h1,h2,h3,h4⟩:=S.sl.ow e
   have le:Same G (upd G a (.lst vs)):=Same.upd_new h2
   exact⟨_,S.shareG e rfl h1 h3 (S.st.share (S.ow i _ a e rfl h1) h2 h3) rfl ⟨.ref a,rfl,by unfold Rep;exact⟨a,vs,rfl,SqL.of aE,h4.mono le⟩⟩,le⟩
theorem SS.frz {is:List Nat}: ∀ {ρ:Rho} {G:Hp},SS X ad G₀ G H ρ σ→ ∃ G',SS X ad G₀ G' H (SK.frz is ρ) σ∧Same G G':=by
 induction is with
 | nil=>intro ρ G S;exact⟨G,S,Same.refl _⟩
 | cons i is ih=>
  intro ρ G S
  obtain⟨G1,S1,l1⟩:=S.frz1 (i:=i)
  obtain⟨G2,S2,l2⟩:=ih S1
  exact⟨G2,S2,l1.trans l2⟩
theorem aZ {is:List Nat} (h1:MS X ad Z st g):MS X ad Z st (withFrz is g):=by
 cases is with
 | nil=>exact h1
 | cons i is=>
  refine PS.imp h1 ?_
  rintro D' σ H ⟨G₀,G,ρ,E,S,hx,hr⟩
  obtain⟨G',S',_⟩:=S.frz (is:=i::is)
  exact⟨G₀,G',_,E,S',hx,hr⟩
end
section
variable {X:Cx} {ad:Ad} {Z:(St→Nat→Hp→Prop)→Prop} {pins:List (Addr×Obj)} {s:Shared} {σ:St} {H G G₀:Hp} {ρ:Rho} {D':Ends} {E:St→Nat→Hp→Prop} {pos pos':Pos} {e:Expr} {f:F} {g h:FS} {st:Stmt} {sts:List Stmt}
theorem SS.updG {i:Nat} {sl₀ sn:Slot} {a:Addr} {o:HO} (S:SS X ad G₀ G H ρ σ) (e:ρ[i]? =some sl₀) (w₀:sl₀.owns=true) (h1:σ[i]? =some (some (.ref a))) (r:SLi X.K ad G (upd H a o) sn (some (.ref a))):SS X ad G₀ G (upd H a o) (ρ.set i sn) σ:=by
 have n0:X.H₀ a=none:=S.ow i sl₀ a e w₀ h1
 have h2:G a=none:=(S.sl.own_at e w₀ h1).1
 have hl:i<ρ.length:=(List.getElem?_eq_some_iff.mp e).1
 have key: ∀ (j:Nat) (sl:Slot),(ρ.set i sn)[j]? =some sl→(j=i∧sl=sn)∨(j≠i∧ρ[j]? =some sl):=fun j sl e=>by
  by_cases z:j=i
  ·subst z
   rw [List.getElem?_set_self hl] at e
   cases e
   exact .inl ⟨rfl,rfl⟩
  ·rw [List.getElem?_set_ne (Ne.symm z)] at e
   exact .inr ⟨z,e⟩
 refine⟨fS S.st n0 h2,⟨by rw [List.length_set];exact S.sl.len,fun j sl e'=> ?_⟩,fun j zs b e' w h=> ?_,fun j j' zs zs' b e1 e2 w1 w2 k1 k2=> ?_⟩
 ·rcases key j sl e' with ⟨q1,q2⟩ | ⟨z,f1⟩
  ·rw [q1,q2]
   exact⟨some (.ref a),h1,r⟩
  ·obtain⟨ov,k1,k2⟩:=S.sl.at_ j sl f1
   refine⟨ov,k1, ?_⟩
   cases sl with
   | no=>trivial
   | sh d=>exact k2
   | ow zs=>
    obtain⟨b,vs',k3,k4,k5,k6⟩:=k2
    have ne:b≠a:=fun q=>by
     subst q
     subst k3
     exact z (S.dj j i _ _ b f1 e rfl w₀ k1 h1)
    exact⟨b,vs',k3,k4,by rw [aA ne];exact k5,k6⟩
   | dc zs=>
    obtain⟨b,vs',k3,k4,k5,k6⟩:=k2
    have ne:b≠a:=fun q=>by
     subst q
     subst k3
     exact z (S.dj j i _ _ b f1 e rfl w₀ k1 h1)
    exact⟨b,vs',k3,k4,by rw [aA ne];exact k5,k6⟩
   | sd zs=>
    obtain⟨b,vs',k3,k4,k5,k6⟩:=k2
    have ne:b≠a:=fun q=>by
     rw [q] at k4
     rw [h2] at k4
     cases k4
    exact⟨b,vs',k3,k4,by rw [aA ne];exact k5,k6⟩
 ·rcases key j _ e' with ⟨q1,q2⟩ | ⟨z,f1⟩
  ·rw [q1,h1] at h
   cases h
   exact n0
  ·exact S.ow j zs b f1 w h
 ·rcases key j _ e1 with ⟨q1,_⟩ | ⟨z,f1⟩
  ·rcases key j' _ e2 with ⟨q2,_⟩ | ⟨z',f2⟩
   ·rw [q1,q2]
   ·rw [q1] at k1 ⊢
    exact S.dj i j' _ zs' b e f2 w₀ w2 k1 k2
  ·rcases key j' _ e2 with ⟨q2,_⟩ | ⟨z',f2⟩
   ·rw [q2] at k2 ⊢
    exact S.dj j i zs _ b f1 e w1 w₀ k1 k2
   ·exact S.dj j j' zs zs' b f1 f2 w1 w2 k1 k2
theorem SS.upd {i:Nat} {xs ys:List D} {a:Addr} {ws:List V} (S:SS X ad G₀ G H ρ σ) (e:ρ[i]? =some (.ow xs)) (h1:σ[i]? =some (some (.ref a))) (h2:G a=none) (r:Reps X.K ad G ys ws):SS X ad G₀ G (L2.upd H a (.lst ws)) (ρ.set i (.ow ys)) σ:=
 S.updG e rfl h1 ⟨a,ws,rfl,h2,aE,r⟩
theorem bG {cpos:Pos} (hs:starEach [e] X.env=(false,eval e X.env)::starEach [] X.env):((backTo cpos (starEach [e] X.env)).all (fun x=> !x.1)&&(backToKw cpos (keywordEach [] X.env)).all (fun x=>x.1.isSome)
   &&decide ([e].length+([]:List Keyword).length+(if([]:List Keyword).isEmpty then 0 else 1)<30))=true:=by
 rw [hs]
 rfl
theorem v7 {i:Nat} {x:Str} {p ap cp:Pos} (hN:X.N[i]? =some x) (hv:Vis X.env.scope x) (hd:(x==("__debug__":Str))=false) (hcd:(x==("__classdict__":Str))=false) (he:ME X ad e f) (hs:starEach [e] X.env=(false,eval e X.env)::starEach [] X.env)
  (hline:(ap.endLine==cp.line)=true):MS X ad Z (.Expr (.Call (.Attribute (.Name x p) "append" ap) [e] [] cp) pos) (sApp i f):=by
 refine PS.imp (dA (nV (T:="list") PySem.F.plainAttrs_list PySem.F.slot_list_append PySem.F.type_list_append dF (aS hN hv hd hcd) (aQ he bA hs) rfl (bG hs) hline hs rfl) rfl) ?_
 rintro D' σ H ⟨G₀,G,ρ,E,S,hx,hr⟩
 unfold sApp at hr
 cases q:ρ[i]? with
 | none=>rw [q] at hr;exact hr.elim
 | some sl=>
  rw [q] at hr
  cases sl with
  | no=>exact hr.elim
  | sh d=>exact hr.elim
  | dc d=>exact hr.elim
  | sd d=>exact hr.elim
  | ow xs=>
   obtain⟨a,vs,h1,h2,h3,h4⟩:=S.sl.ow q
   refine⟨.ref a,h1, .inl ⟨rfl,vs,SqL.of h3⟩, ?_⟩
   refine aT S hx hr fun v d G1 H1 st r k=> ?_
   obtain⟨g1,h1'⟩:=aP st h2 h3
   have k':OKo X ad G₀ (if xs.length<LIM then .nx (ρ.set i (.ow (xs++[d]))) else .rt .bad) D' E:=k
   by_cases hc:xs.length<LIM
   ·rw [if_pos hc] at k'
    have r4:=h4.mono st.sg
    refine⟨a,vs,v,rfl,rfl,h1', ?_,k' σ G1 _ ((S.step st).upd q h1 g1 (r4.append (Reps.cons r Reps.nil)))⟩
    rw [h4.length]
    exact Nat.lt_of_lt_of_le hc (by decide)
   ·rw [if_neg hc] at k'
    exact k'.elim
noncomputable def rExt (K:PySem.W.Frag):V→List V→Hp→VK→Prop:=fun x vs H Q=> ∃ l b xs zs,x= .ref l∧vs=[.ref b]∧H l=some (.lst xs)∧SqL K H b zs∧xs.length+zs.length≤sizeLine∧Q .non (upd H l (.lst (xs++zs)))
theorem qB:MtM X "list.extend" (rExt X.K):=by
 intro pins s σ H x vs v us Q I rx rv h
 obtain⟨l,b,xs,zs,rfl,rfl,hH,hB,hz,q⟩:=h
 cases rx
 obtain⟨u,rfl,ru⟩:=rv.one
 cases ru
 obtain⟨z,its,n,r,hl,e⟩:=I.lstM hH
 obtain⟨its2,r2,⟨⟨cls2,dd2,data2,sl2⟩,n2,e2,hc2,hdd2,hd2⟩,_⟩:=I.list hB
 simp only at hc2 hd2 hdd2
 subst hc2 hd2
 have hl2:=r2.length
 have hsz:its.toArray.size+its2.toArray.size≤sizeLine:=by rw [List.size_toArray,List.size_toArray];omega
 have hlong: ¬ (!its.toArray.isEmpty&&Builtin.List.listTooLong (its.toArray.size+its2.toArray.size))=true:=by
  rw [iH hsz,Bool.and_false]
  exact Bool.false_ne_true
 refine call_meets F.slot_list_extend ⟨_,e,rfl⟩ F.entry_list_extend (F.args_list_extend_2 _ _)
  (fK l its.toArray n b its2.toArray n2 dd2 sl2 hlong (by rw [List.size_toArray];omega) (by omega)) ⟨e,e2, ?_⟩
 refine⟨.non,_,I.lset (its':=its++its2) hH e (by simp) (r.append r2) ?_,rfl,q⟩
 rw [List.length_append]
 omega
theorem v8 {i:Nat} {x:Str} {p ap cp:Pos} (hN:X.N[i]? =some x) (hv:Vis X.env.scope x) (hd:(x==("__debug__":Str))=false) (hcd:(x==("__classdict__":Str))=false) (he:ME X ad e f) (hs:starEach [e] X.env=(false,eval e X.env)::starEach [] X.env)
  (hline:(ap.endLine==cp.line)=true):MS X ad Z (.Expr (.Call (.Attribute (.Name x p) "extend" ap) [e] [] cp) pos) (sExt i f):=by
 refine PS.imp (dA (nV (T:="list") PySem.F.plainAttrs_list PySem.F.slot_list_extend PySem.F.type_list_extend qB (aS hN hv hd hcd) (aQ he bA hs) rfl (bG hs) hline hs rfl) rfl) ?_
 rintro D' σ H ⟨G₀,G,ρ,E,S,hx,hr⟩
 unfold sExt at hr
 cases q:ρ[i]? with
 | none=>rw [q] at hr;exact hr.elim
 | some sl=>
  rw [q] at hr
  cases sl with
  | no=>exact hr.elim
  | sh d=>exact hr.elim
  | dc d=>exact hr.elim
  | sd d=>exact hr.elim
  | ow xs=>
   obtain⟨a,vs,h1,h2,h3,h4⟩:=S.sl.ow q
   refine⟨.ref a,h1, .inl ⟨rfl,vs,SqL.of h3⟩, ?_⟩
   refine aT S hx hr fun v d G1 H1 st r k=> ?_
   obtain⟨g1,h1'⟩:=aP st h2 h3
   cases d<;>try exact False.elim k
   rename_i ys
   have k':OKo X ad G₀ (if xs.length+ys.length≤LIM then .nx (ρ.set i (.ow (xs++ys))) else .rt .bad) D' E:=k
   by_cases hc:xs.length+ys.length≤LIM
   ·rw [if_pos hc] at k'
    have r4:=h4.mono st.sg
    unfold Rep at r
    obtain⟨b,ws,rfl,hq,rq⟩:=r
    refine⟨a,b,vs,ws,rfl,rfl,h1',st.gh.seq hq, ?_,k' σ G1 _ ((S.step st).upd q h1 g1 (r4.append rq))⟩
    rw [h4.length,rq.length]
    exact Nat.le_trans hc (by decide)
   ·rw [if_neg hc] at k'
    exact k'.elim
structure ItG (X:Cx) (ad:Ad) (J:It) (G:Hp) (ds:List D):Prop where
 go: ∀ (i:Nat) (G1 H1:Hp) (d:D),Same G G1→Same G1 H1→ds[i]? =some d→J.go i H1∧ ∀ x H2,J.yld i H1 x H2→ ∃ G2,Step G1 H1 G2 H2∧Rep X.K ad G2 d x
 stop: ∀ (G1 H1:Hp),Same G G1→Same G1 H1→J.stop ds.length H1
def IGK (X:Cx) (ad:Ad) (G H:Hp) (r:R) (W:It→Hp→Prop) (E:Nat→Hp→Prop):Prop:=match r with
 | .ok d=> ∃ ds,items d=some ds∧ ∀ J G' H',Step G H G' H'→ItG X ad J G' ds→W J H'
 | .ow xs=> ∀ J G' H',Step G H G' H'→ItG X ad J G' xs→W J H'
 | .ex c=> ∀ G' H',Step G H G' H'→E c H'
 | .bad=>False
noncomputable def tIG (X:Cx) (ad:Ad) (f:F):TI:=fun σ H W=> ∃ G ρ E,Same G H∧SL X.K ad G H ρ σ∧XP X ad σ E∧IGK X ad G H (f ρ) W E
abbrev MIG (X:Cx) (ad:Ad) (tg e:Expr) (f:F):Prop:=PI X tg e (tIG X ad f)
theorem sB {a:Addr} {vs:List V} {ds:List D} (hq:SqT X.K G a vs) (r:Reps X.K ad G ds vs):ItG X ad (Itt X.K a) G ds:=by
 refine⟨fun i G1 H1 d s1 s2 e=> ?_,fun G1 H1 s1 s2=>⟨vs,s2.seqT (s1.seqT hq),by rw [r.length];exact Nat.le_refl _⟩⟩
 obtain⟨v,e1,r1⟩:=r.get e
 refine⟨⟨vs,v,s2.seqT (s1.seqT hq),e1⟩, ?_⟩
 rintro x H2 ⟨rfl,y⟩
 have:=y vs (s2.seqT (s1.seqT hq))
 rw [e1] at this
 cases this
 exact⟨G1,Step.refl s2,r1.mono s1⟩
theorem sC {a:Addr} {vs:List V} {ds:List D} (hq:SqL X.K G a vs) (r:Reps X.K ad G ds vs):ItG X ad (Itl X.K a) G ds:=by
 refine⟨fun i G1 H1 d s1 s2 e=> ?_,fun G1 H1 s1 s2=>⟨vs,s2.seq (s1.seq hq),by rw [r.length];exact Nat.le_refl _⟩⟩
 obtain⟨v,e1,r1⟩:=r.get e
 refine⟨⟨vs,v,s2.seq (s1.seq hq),e1⟩, ?_⟩
 rintro x H2 ⟨rfl,y⟩
 have:=y vs (s2.seq (s1.seq hq))
 rw [e1] at this
 cases this
 exact⟨G1,Step.refl s2,r1.mono s1⟩
theorem sD {lo:Int} {n:Nat}:ItG X ad (Itr lo n) G ((List.range n).map fun(i:Nat)=>D.int (lo+(i:Int))):=by
 refine⟨fun i G1 H1 d s1 s2 e=> ?_,fun G1 H1 s1 s2=>by simp [Itr]⟩
 rw [List.getElem?_map] at e
 cases q:(List.range n)[i]? with
 | none=>rw [q] at e;cases e
 | some j=>
  rw [q] at e
  obtain⟨hi,hj⟩:=List.getElem?_eq_some_iff.mp q
  rw [List.length_range] at hi
  rw [List.getElem_range] at hj
  subst hj
  cases e
  refine⟨hi, ?_⟩
  rintro x H2 ⟨rfl,rfl⟩
  exact⟨G1,Step.refl s2,aD⟩
theorem dO {tg a:Expr} {f:F} (ha:ME X ad a f):MIG X ad tg a f:=by
 intro pins s σ H W I ⟨G,ρ,E,hG,hS,hx,hr⟩
 have key: ∀ (d:D) (ds:List D),items d=some ds→(∀ J G' H',Step G H G' H'→ItG X ad J G' ds→W J H')→ ∀ u s1 v H1 G1,Inv X pins σ H1 s1→RelV v u→Step G H G1 H1→Rep X.K ad G1 d v→wpAny (model X.prog X.w) X.A (pyIter u) (PIE X pins σ tg W) X.xe s1:=by
  intro d ds e hw u s1 v H1 G1 I1 r1 st q
  obtain⟨p,vs,rfl,hq,rq⟩:=dH e q
  cases (show u=Value.ref p from r1)
  rcases hq with hq | hq
  ·obtain⟨its,rv,pt,hz⟩:=I1.tuple (st.gh.seqT hq)
   refine wpAny_pyIter_tuple (show s1.heap.IsTuple p its.toArray from pt) ?_
   refine⟨s1.heap.objs.size,[s1.heap.objs.size],_,_,H1,rfl,I1.kept (t':=s1.toks) fun b o e=>Heap.get?_push_of_some _ e,d7 p _,⟨_,Heap.get?_push_size _ rfl,rfl,rfl⟩,fun b hb=> ?_,hw _ G1 H1 st (sB hq rq)⟩
   have e:b=s1.heap.objs.size:=by simpa using hb
   subst e
   exact I1.fpOk (Nat.le_refl _) (I1.hok.fresh (Nat.le_refl _))
  ·obtain⟨its,rv,pt,hz⟩:=I1.list (st.gh.seq hq)
   refine wpAny_pyIter_list pt.isList ?_
   refine⟨s1.heap.objs.size,[s1.heap.objs.size],_,_,H1,rfl,I1.kept (t':=s1.toks) fun b o e=>Heap.get?_push_of_some _ e,dB p _,⟨_,Heap.get?_push_size _ rfl,rfl,rfl⟩,fun b hb=> ?_,hw _ G1 H1 st (sC hq rq)⟩
   have e:b=s1.heap.objs.size:=by simpa using hb
   subst e
   exact I1.fpOk (Nat.le_refl _) (I1.hok.fresh (Nat.le_refl _))
 cases e:f ρ with
 | ok d=>
  rw [e] at hr
  obtain⟨ds,e2,hw⟩:=hr
  exact L2.thn (ha pins s σ H (fun v H1=> ∃ G1,Step G H G1 H1∧Rep X.K ad G1 d v) I ⟨G,ρ,E,hG,hS,hx,by rw [e];exact fun v G1 H1 st q=>⟨G1,st,q⟩⟩) fun u s1 ⟨v,H1,I1,r1,G1,st,q⟩=>key d ds e2 hw u s1 v H1 G1 I1 r1 st q
 | ow l=>
  rw [e] at hr
  exact L2.thn (ha pins s σ H (fun v H1=> ∃ G1,Step G H G1 H1∧Rep X.K ad G1 (.lst l) v) I ⟨G,ρ,E,hG,hS,hx,by rw [e];exact fun p vs G1 H1 st n m e' q=>aO st n m e' q⟩) fun u s1 ⟨v,H1,I1,r1,G1,st,q⟩=>key (.lst l) l rfl hr u s1 v H1 G1 I1 r1 st q
 | ex c=>
  rw [e] at hr
  exact L2.thn (ha pins s σ H (fun v H1=>False) I ⟨G,ρ,E,hG,hS,hx,by rw [e];exact hr⟩) fun u s1 ⟨v,H1,I1,r1,q⟩=>q.elim
 | bad=>
  rw [e] at hr
  exact False.elim hr
theorem lL {tg a:Expr} {f:F} {p:Pos} (hg:L2.Gl X "range") (hm:X.mg "range"=none) (ha:ME X ad a f) (hs:starEach [a] X.env=(false,eval a X.env)::starEach [] X.env):MIG X ad tg (.Call (.Name "range" p) [a] [] pos) (iRange f):=by
 intro pins s σ H W I ⟨G,ρ,E,hG,hS,hx,hr⟩
 refine e9 (ta:=tCons (tE X ad f) tNil) hg hm (aQ ha bA hs) hs pins s σ H W I ?_
 show tE X ad f σ H fun v H1=> ∃ j:Int,[v]=[.int j]∧ -(2 ^ 62)≤j∧j<2 ^ 62∧W (Itr 0 j.toNat) H1
 refine⟨G,ρ,E,hG,hS,hx, ?_⟩
 unfold iRange at hr
 cases e:f ρ with
 | ok d=>
  rw [e] at hr
  cases d<;>try exact False.elim hr
  rename_i i
  have k':IGK X ad G H (if -100000≤i∧i≤100000 then .ok (.lst (rngD i.toNat)) else .bad) W E:=hr
  by_cases hc: -100000≤i∧i≤100000
  ·rw [if_pos hc] at k'
   obtain⟨ds,e,hw⟩:=k'
   cases e
   intro v G1 H1 st r
   unfold Rep at r;subst r
   refine⟨i,rfl,by omega,by omega,hw _ G1 H1 st ?_⟩
   rw [lJ]
   exact sD
  ·rw [if_neg hc] at k'
   exact k'.elim
 | ow l=>rw [e] at hr;exact False.elim hr
 | ex c=>rw [e] at hr;exact hr
 | bad=>rw [e] at hr;exact hr
end
noncomputable def gIs:List Nat→TGs
 | []=>gNil
 | i::is=>gCons (gName i) (gIs is)
noncomputable def setIs:List Nat→List V→St→St
 | i::is,v::vs,σ=>setIs is vs (σ.set i (some v))
 | _,_,σ=>σ
theorem lM: ∀ {is:List Nat} {vs:List V} {σ:St} {H:Hp} {Q:St→Hp→Prop},vs.length=is.length→Q (setIs is vs σ) H→gIs is vs σ H Q
 | [],[],_,_,_,_,h=>⟨rfl,h⟩
 | i::is,v::vs,σ,H,Q,e,h=>⟨v,vs,rfl,lM (is:=is) (vs:=vs) (by simpa using e) h⟩
 | [],_::_,_,_,_,e,_=>by simp at e
 | _::_,[],_,_,_,e,_=>by simp at e
noncomputable def gTs (K:PySem.W.Frag) (k:Nat) (is:List Nat):TG:=match k,is with
 | 0,[i]=>gName i
 | k,is=>gTup K is.length (gIs is)
def NmOk (X:Cx) (x:Str) (i:Nat):Prop:=X.N[i]? =some x∧Loc X.env.scope x∧(X.fn x=true∨X.env.scope.names.lookup x=some .local)
inductive NmsOk (X:Cx):List Str→List Nat→Prop
 | nil:NmsOk X [] []
 | cons {x:Str} {i:Nat} {xs:List Str} {is:List Nat}:NmOk X x i→NmsOk X xs is→NmsOk X (x::xs) (i::is)
section
variable {X:Cx} {ad:Ad} {Z:(St→Nat→Hp→Prop)→Prop} {pins:List (Addr×Obj)} {s:Shared} {σ:St} {H G G₀:Hp} {ρ:Rho} {D':Ends} {E:St→Nat→Hp→Prop} {pos pos':Pos} {e it tg:Expr} {f:F} {g h:FS} {st:Stmt} {body:List Stmt}
theorem NmsOk.len: ∀ {xs:List Str} {is:List Nat},NmsOk X xs is→is.length=xs.length
 | _,_, .nil=>rfl
 | _,_, .cons _ h=>by simp [NmsOk.len h]
theorem lN (hN:X.N.Nodup): ∀ {es:List Expr} {xs:List Str} {is:List Nat},mapO (fun(e:Expr)=>match e with | .Name x _=>some x | _=>none) es=some xs→NmsOk X xs is→PGs X es (gIs is)
 | [],xs,is,e,h=>by
  cases e
  cases h
  exact kG
 | a::es,xs,is,e,h=>by
  unfold mapO at e
  cases a<;>try (cases e)
  rename_i x px
  simp only at e
  obtain⟨r,e1,e2⟩:=zMd e
  subst e2
  cases h with
  | cons h1 h2=>exact iD (bY hN h1.1 h1.2.1 h1.2.2) (lN hN e1 h2) rfl
theorem cH: ∀ {es:List Expr} {xs:List Str},mapO (fun(e:Expr)=>match e with | .Name x _=>some x | _=>none) es=some xs→(assignEach es X.env).length=xs.length∧(assignEach es X.env).findIdx? (·.1)=none
 | [],xs,e=>by cases e;exact⟨rfl,rfl⟩
 | a::es,xs,e=>by
  unfold mapO at e
  cases a<;>try (cases e)
  rename_i x px
  simp only at e
  obtain⟨r,e1,e2⟩:=zMd e
  subst e2
  obtain⟨h1,h2⟩:=cH e1
  have q:assignEach (.Name x px::es) X.env=(false,assign (.Name x px) X.env)::assignEach es X.env:=rfl
  rw [q]
  refine⟨by simp [h1], ?_⟩
  rw [List.findIdx?_cons]
  simp [h2]
theorem sE {xs:List Str} {k:Nat} {is:List Nat} (hc:X.calm=true) (hN:X.N.Nodup) (e:tgNames tg=some (xs,k)) (h:NmsOk X xs is):PG X tg (gTs X.K k is)∧(k=0∧is.length=1∨k≠0∧k=is.length):=by
 cases tg<;>try (cases e)
 ·rename_i x px
  cases h with
  | cons h1 h2=>
   cases h2
   exact⟨bY hN h1.1 h1.2.1 h1.2.2, .inl ⟨rfl,rfl⟩⟩
 ·rename_i es j px
  unfold tgNames at e
  obtain⟨ys,e1,e2⟩:=zBd e
  by_cases hl:2≤ys.length
  ·rw [if_pos hl] at e2
   cases e2
   obtain⟨q1,q2⟩:=cH (X:=X) e1
   have hk:=h.len
   refine⟨?_, .inr ⟨by omega,hk.symm⟩⟩
   have P:=pN (pos:=px) (k:=j) (n:=is.length) hc (lN hN e1 h) (by rw [q1,hk]) q2
   have:gTs X.K xs.length is=gTup X.K is.length (gIs is):=by
    unfold gTs
    cases is with
    | nil=>simp at hk;omega
    | cons i is=>
     cases hx:xs.length with
     | zero=>omega
     | succ n=>rfl
   rw [this]
   exact P
  ·rw [if_neg hl] at e2
   cases e2
theorem SS.setN: ∀ {is:List Nat} {ds:List D} {vs:List V} {ρ:Rho} {σ:St},SS X ad G₀ G H ρ σ→Reps X.K ad G ds vs→SS X ad G₀ G H (SK.setN is ds ρ) (setIs is vs σ)
 | [],ds,vs,ρ,σ,S,r=>by
  have e1:SK.setN [] ds ρ=ρ:=by cases ds<;>rfl
  have e2:setIs [] vs σ=σ:=by cases vs<;>rfl
  rw [e1,e2]
  exact S
 | i::is,[],vs,ρ,σ,S,r=>by
  unfold Reps at r
  subst r
  exact S
 | i::is,d::ds,vs,ρ,σ,S,r=>by
  unfold Reps at r
  obtain⟨v,vr,rfl,r1,r2⟩:=r
  exact SS.setN (is:=is) (ds:=ds) (vs:=vr) (ρ:=ρ.set i (.sh d)) (σ:=σ.set i (some v)) (S.set r1) r2
theorem qC {k:Nat} {is:List Nat} {d:D} {v:V} {ρ1:Rho} {Q:St→Hp→Prop} (hk:k=0∧is.length=1∨k≠0∧k=is.length) (e:tgtS is (k==0) d ρ=some ρ1) (S:SS X ad G₀ G H ρ σ) (r:Rep X.K ad G d v) (q: ∀ σ1,SS X ad G₀ G H ρ1 σ1→Q σ1 H):gTs X.K k is v σ H Q:=by
 rcases hk with ⟨rfl,h1⟩ | ⟨h1,h2⟩
 ·obtain⟨i,rfl⟩:=List.length_eq_one_iff.mp h1
  cases e
  exact q _ (S.set r)
 ·have hb:(k==0)=false:=by simpa using h1
  rw [hb] at e
  have e0:tgtS is false d ρ=match(generalizing:=false) d with | .tup ds=>if ds.length=is.length then some (SK.setN is ds ρ) else none | _=>none:=by
   cases is with
   | nil=>rfl
   | cons _ _=>rfl
  have e':=e0.symm.trans e
  have hg:gTs X.K k is=gTup X.K is.length (gIs is):=by
   unfold gTs
   cases k with
   | zero=>exact absurd rfl h1
   | succ k=>rfl
  rw [hg]
  cases d<;>try (cases e')
  rename_i ds
  simp only at e'
  by_cases hl:ds.length=is.length
  ·rw [if_pos hl] at e'
   cases e'
   unfold Rep at r
   obtain⟨a,vs,rfl,hq,rq⟩:=r
   exact⟨a,vs,rfl,S.st.gh.seqT hq,by rw [rq.length,hl],lM (by rw [rq.length,hl]) (q _ (S.setN rq))⟩
  ·rw [if_neg hl] at e'
   cases e'
theorem lO {α:Type} {ds:List α} {i:Nat} {d:α} (e:ds[i]? =some d):ds.drop i=d::ds.drop (i+1):=by
 obtain⟨h,rfl⟩:=List.getElem?_eq_some_iff.mp e
 exact List.drop_eq_getElem_cons h
theorem cV {J:It} {G' H':Hp} {ds:List D} {k:Nat} {is:List Nat} (hk:k=0∧is.length=1∨k≠0∧k=is.length) (S:SS X ad G₀ G' H' ρ σ) (hx:XA X ad Z E) (it:ItG X ad J G' ds) (hr:OKo X ad G₀ (forGo (tgtS is (k==0)) g ds ρ) D' E):
  ∃ W:Nat→Nat→St→Hp→Prop,(∃ m,W 0 m σ H')∧ ∀ i m σ H,W i m σ H→
   (J.stop i H∧D'.nx σ H)∨(J.go i H∧ ∃ N:St→Hp→Prop,(∀ σ' H',N σ' H'→ ∃ m',m'<m∧W (i+1) m' σ' H')∧ ∀ x H',J.yld i H x H'→gTs X.K k is x σ H' fun σ2 H2=>tS X ad Z g { D' with nx:=N,ct:=N,bk:=D'.nx } σ2 H2):=by
 refine⟨fun i m σ H=>m=ds.length - i∧i≤ds.length∧ ∃ G ρ,SS X ad G₀ G H ρ σ∧Same G' G∧OKo X ad G₀ (forGo (tgtS is (k==0)) g (ds.drop i) ρ) D' E,⟨_,rfl,Nat.zero_le _,G',ρ,S,Same.refl _,hr⟩, ?_⟩
 rintro i m σ1 H1 ⟨rfl,hi,G1,ρ1,S1,sm,hr1⟩
 cases q:ds[i]? with
 | none=>
  have hl:ds.length≤i:=List.getElem?_eq_none_iff.mp q
  have:i=ds.length:=by omega
  subst this
  refine .inl ⟨it.stop G1 H1 sm S1.st.gh, ?_⟩
  rw [List.drop_length] at hr1
  exact hr1 σ1 G1 H1 S1
 | some d=>
  have hlt:i<ds.length:=(List.getElem?_eq_some_iff.mp q).1
  obtain⟨go,yl⟩:=it.go i G1 H1 d sm S1.st.gh q
  refine .inr ⟨go,fun σ' H'=> ∃ G ρ,SS X ad G₀ G H' ρ σ'∧Same G' G∧OKo X ad G₀ (forGo (tgtS is (k==0)) g (ds.drop (i+1)) ρ) D' E,fun σ' H' ⟨Ga,ρa,Sa,sa,ra⟩=>⟨_,by omega,rfl,hlt,Ga,ρa,Sa,sa,ra⟩,fun x H2 y=> ?_⟩
  obtain⟨G2,st,r2⟩:=yl x H2 y
  rw [lO q] at hr1
  unfold forGo at hr1
  cases et:tgtS is (k==0) d ρ1 with
  | none=>rw [et] at hr1;exact hr1.elim
  | some ρ2=>
   rw [et] at hr1
   have S2:=S1.step st
   refine qC hk et S2 r2 fun σ2 S3=> ?_
   refine⟨G2,G2,ρ2,E,S3.here,hx, ?_⟩
   have hr2:OKo X ad G₀ (match g ρ2 with
    | .nx ρ2=>forGo (tgtS is (k==0)) g (ds.drop (i+1)) ρ2
    | .ct ρ2=>forGo (tgtS is (k==0)) g (ds.drop (i+1)) ρ2
    | .bk ρ2=> .nx ρ2
    | .rt r=> .rt r
    | .ex c ρ2=> .ex c ρ2) D' E:=hr1
   cases eo:g ρ2 with
   | nx ρ3=>
    rw [eo] at hr2
    exact fun σ G H S4=>⟨G,ρ3,S4.up S3.st,(sm.trans st.sg).trans S4.st.sg,hr2⟩
   | ct ρ3=>
    rw [eo] at hr2
    exact fun σ G H S4=>⟨G,ρ3,S4.up S3.st,(sm.trans st.sg).trans S4.st.sg,hr2⟩
   | bk ρ3=>
    rw [eo] at hr2
    exact fun σ G H S4=>hr2 σ G H (S4.up S3.st)
   | ex c ρ3=>
    rw [eo] at hr2
    exact fun σ G H S4=>hr2 σ G H (S4.up S3.st)
   | rt r=>
    rw [eo] at hr2
    have:=hr2.rebase S3.st
    cases r<;>exact this
theorem v9 {k:Nat} {is:List Nat} {xs:List Str} (hp:PassesOwn (model X.prog X.w) X.A X.env X.xe) (hc:X.calm=true) (hN:X.N.Nodup) (hi:MIG X ad tg it f) (ht:tgNames tg=some (xs,k)) (hn:NmsOk X xs is) (hb:MSs X ad Z body g)
  (hs: ∀ x,foldedSetIterable it X.env x=pure x):MS X ad Z (.For tg it body [] pos) (sFor is (k==0) f g):=by
 obtain⟨P,hk⟩:=sE hc hN ht hn
 refine PS.imp (pS hp hc hi P hb hs) ?_
 rintro D' σ H ⟨G₀,G,ρ,E,S,hx,hr⟩
 refine⟨G,ρ,E σ,S.st.gh,S.sl,hx.1 σ, ?_⟩
 unfold sFor outR at hr
 cases e:f ρ with
 | ok d=>
  rw [e] at hr
  have hr':OKo X ad G₀ (match items d with | some ds=>forGo (tgtS is (k==0)) g ds ρ | none=> .rt .bad) D' E:=hr
  cases e2:items d with
  | none=>rw [e2] at hr';exact hr'.elim
  | some ds=>
   rw [e2] at hr'
   exact⟨ds,e2,fun J G' H' st it=>cV hk (S.step st) hx it hr'⟩
 | ow xs=>
  rw [e] at hr
  exact fun J G' H' st it=>cV hk (S.step st) hx it hr
 | ex c=>rw [e] at hr;exact fun G1 H1 st=>hr σ G1 H1 (S.step st)
 | bad=>rw [e] at hr;exact hr
theorem oC {c:Expr} (hp:PassesOwn (model X.prog X.w) X.A X.env X.xe) (hc:MT X ad c f) (hb:MSs X ad Z body g):MS X ad Z (.While c body [] pos) (sWhile f g):=by
 refine PS.imp (nQ hp hc hb) ?_
 rintro D' σ H ⟨G₀,G,ρ,E,S,hx,hr⟩
 refine⟨fun m σ H=> ∃ G ρ,SS X ad G₀ G H ρ σ∧OKo X ad G₀ (whileGo f g m ρ) D' E,⟨_,G,ρ,S,hr⟩, ?_⟩
 rintro m σ1 H1 ⟨G1,ρ1,S1,hr1⟩
 cases m with
 | zero=>exact hr1.elim
 | succ m=>
  unfold whileGo at hr1
  cases e:f ρ1 with
  | ok d=>
   rw [e] at hr1
   cases d<;>try exact hr1.elim
   rename_i k
   refine⟨G1,ρ1,E σ1,S1.st.gh,S1.sl,hx.1 σ1, .inl ⟨k,e⟩, ?_⟩
   rw [e]
   intro v G2 H2 st r
   unfold Rep at r;subst r
   refine⟨k,rfl, ?_⟩
   have S2:=S1.step st
   cases k with
   | false=>exact iteF (hr1 σ1 G2 H2 S2)
   | true=>
    refine iteT ⟨fun σ' H'=> ∃ G ρ,SS X ad G₀ G H' ρ σ'∧OKo X ad G₀ (whileGo f g m ρ) D' E,fun σ' H' ⟨Ga,ρa,Sa,ra⟩=>⟨m,Nat.lt_succ_self _,Ga,ρa,Sa,ra⟩,G2,G2,ρ1,E,S2.here,hx, ?_⟩
    have hr2:OKo X ad G₀ (match g ρ1 with
     | .nx ρ'=>whileGo f g m ρ'
     | .ct ρ'=>whileGo f g m ρ'
     | .bk ρ'=> .nx ρ'
     | .rt r=> .rt r
     | .ex k ρ'=> .ex k ρ') D' E:=hr1
    cases eo:g ρ1 with
    | nx ρ3=>rw [eo] at hr2;exact fun σ G H S4=>⟨G,ρ3,S4.up S2.st,hr2⟩
    | ct ρ3=>rw [eo] at hr2;exact fun σ G H S4=>⟨G,ρ3,S4.up S2.st,hr2⟩
    | bk ρ3=>rw [eo] at hr2;exact fun σ G H S4=>hr2 σ G H (S4.up S2.st)
    | ex c ρ3=>rw [eo] at hr2;exact fun σ G H S4=>hr2 σ G H (S4.up S2.st)
    | rt r=>
     rw [eo] at hr2
     have:=hr2.rebase S2.st
     cases r<;>exact this
  | ow xs=>rw [e] at hr1;exact hr1.elim
  | ex k=>
   rw [e] at hr1
   refine⟨G1,ρ1,E σ1,S1.st.gh,S1.sl,hx.1 σ1, .inr ⟨k,e⟩, ?_⟩
   rw [e]
   exact fun G2 H2 st=>hr1 σ1 G2 H2 (S1.step st)
  | bad=>rw [e] at hr1;exact hr1.elim
theorem wA {st:Stmt}:MS X ad Z st sBad:=fun _ _ _ _ _ _ ⟨_,_,_,_,_,_,hr⟩=>False.elim hr
theorem wB {i:Nat} {x:Str} {op:Operator} (hN:X.N.Nodup) (hi:NmOk X x i) (he:ME X ad e f) (ho:op= .Add∨op= .Sub):MS X ad Z (.AugAssign (.Name x pos') op e pos) (sAug i op f):=by
 rcases ho with rfl | rfl
 ·refine PS.imp (pQ hN hi.1 hi.2.1 he pR hi.2.2) ?_
  rintro D' σ H ⟨G₀,G,ρ,E,S,hx,hr⟩
  unfold sAug at hr
  cases q:ρ[i]? with
  | none=>rw [q] at hr;exact hr.elim
  | some sl=>
   rw [q] at hr
   cases sl with
   | no=>exact hr.elim
   | ow _=>exact hr.elim
   | dc _=>exact hr.elim
   | sd _=>exact hr.elim
   | sh d=>
    cases d<;>try exact hr.elim
    rename_i a
    obtain⟨v,h1,h2⟩:=S.sl.sh q
    unfold Rep at h2;subst h2
    refine⟨_,h1,aT S hx hr fun v d G1 H1 st r k=> ?_⟩
    cases d<;>try exact False.elim k
    unfold Rep at r;subst r
    exact⟨a,_,rfl,rfl,k _ G1 H1 ((S.step st).set aD)⟩
 ·refine PS.imp (pQ hN hi.1 hi.2.1 he uY hi.2.2) ?_
  rintro D' σ H ⟨G₀,G,ρ,E,S,hx,hr⟩
  unfold sAug at hr
  cases q:ρ[i]? with
  | none=>rw [q] at hr;exact hr.elim
  | some sl=>
   rw [q] at hr
   cases sl with
   | no=>exact hr.elim
   | ow _=>exact hr.elim
   | dc _=>exact hr.elim
   | sd _=>exact hr.elim
   | sh d=>
    cases d<;>try exact hr.elim
    rename_i a
    obtain⟨v,h1,h2⟩:=S.sl.sh q
    unfold Rep at h2;subst h2
    refine⟨_,h1,aT S hx hr fun v d G1 H1 st r k=> ?_⟩
    cases d<;>try exact False.elim k
    unfold Rep at r;subst r
    exact⟨a,_,rfl,rfl,k _ G1 H1 ((S.step st).set aD)⟩
theorem oD:PGet X (rIxL X.K):=by
 intro pins s σ H x y v u Q I rx ry h
 obtain⟨p,xs,i,z,rfl,rfl,hq,he,q⟩:=h
 cases rx
 obtain⟨t,rfl⟩:=ry
 obtain⟨its,r,pl,hz⟩:=I.list hq
 obtain⟨j,h1,h2,h3,h4,h5⟩:=gL he
 obtain⟨w,ew,rw'⟩:=r.get h2
 have hl:=r.length
 have hn:=line63
 have fin:EP X pins σ Q w s:=⟨z,H,I,rw',q⟩
 by_cases h0:0≤i
 ·have hj:i.toNat=j:=by
   rw [seqIndex_of h0 h5] at h1
   exact Option.some.inj h1
  exact wpAny_getItem_list pl.isList h0 (by omega) (by rw [hj];simpa using ew) fin
 ·have hj:(i+(its.toArray.size:Int)).toNat=j:=by
   rw [seqIndex_neg (by omega) h4] at h1
   rw [List.size_toArray, ←hl]
   exact Option.some.inj h1
  exact wpAny_getItem_list_neg pl.isList (by omega) (by rw [List.size_toArray]<;>omega) (by omega) (by rw [hj];simpa using ew) fin
theorem sF {i:Nat} {x:Str} {p tp:Pos} {kx:Expr} {fk:F} (hN:X.N[i]? =some x) (hv:Vis X.env.scope x) (hd:(x==("__debug__":Str))=false) (hcd:(x==("__classdict__":Str))=false) (he:ME X ad e f) (hk:ME X ad kx fk)
  (ha: ∀ ov iv new,augStore kx ov iv new=(do holding [new,ov,iv] (setItem ov iv new);release [new,ov,iv] [];pure .next)):
  MS X ad Z (.AugAssign (.Subscript (.Name x p) kx tp) .Add e pos) (sAugS i fk f):=by
 refine PS.imp (qR (aS hN hv hd hcd) hk oD he pR iG ha) ?_
 rintro D' σ H ⟨G₀,G,ρ,E,S,hx,hr⟩
 unfold sAugS at hr
 cases q:ρ[i]? with
 | none=>rw [q] at hr;exact hr.elim
 | some sl=>
  rw [q] at hr
  cases sl with
  | no=>exact hr.elim
  | sh d=>exact hr.elim
  | dc d=>exact hr.elim
  | sd d=>exact hr.elim
  | ow xs=>
   obtain⟨a,vs,h1,h2,h3,h4⟩:=S.sl.ow q
   refine⟨.ref a,h1, ?_⟩
   refine aT S hx hr fun v2 y G2 H2 st2 r2 k2=> ?_
   obtain⟨g2,h2'⟩:=aP st2 h2 h3
   cases y<;>try exact False.elim k2
   rename_i j
   unfold Rep at r2;subst r2
   have k':OKo X ad G₀ (match ixD xs.length j with | some m=>(match xs[m]? with | some (.int a)=>outR ρ (f ρ) fun d=>(match d with | .int b=> .nx (ρ.set i (.ow (xs.set m (.int (a+b))))) | _=> .rt .bad) | _=> .rt .bad) | none=> .rt .bad) D' E:=k2
   cases q2:ixD xs.length j with
   | none=>rw [q2] at k';exact k'.elim
   | some m=>
    rw [q2] at k'
    dsimp only at k'
    cases q3:xs[m]? with
    | none=>rw [q3] at k';exact k'.elim
    | some d0=>
     rw [q3] at k'
     cases d0<;>try exact False.elim k'
     rename_i a0
     dsimp only at k'
     have r4:=h4.mono st2.sg
     obtain⟨v0,e0,r0⟩:=r4.get q3
     unfold Rep at r0;subst r0
     have hat:atI vs j=some (.int a0):=by
      unfold atI
      rw [h4.length, ←iM,q2]
      exact e0
     refine⟨a,vs,j, .int a0,rfl,rfl,SqL.of h2',hat, ?_⟩
     refine aT (S.step st2) hx k' fun v3 d3 G3 H3 st3 r3 k3=> ?_
     obtain⟨g3,h3'⟩:=aP st3 g2 h2'
     cases d3<;>try exact False.elim k3
     rename_i b0
     unfold Rep at r3;subst r3
     refine⟨a0,b0,rfl,rfl,a,vs,j,m,rfl,rfl,h3',by rw [h4.length, ←iM];exact q2, ?_⟩
     exact k3 σ G3 _ (((S.step st2).step st3).upd q h1 g3 (Reps.set aD m (r4.mono st3.sg)))
end
section
variable {X:Cx} {ad:Ad} {pins:List (Addr×Obj)} {s s3:Shared} {σ σ2:St} {H G G₀ H3 H':Hp} {ρ:Rho} {Q:VK} {D':Ends} {E:St→Nat→Hp→Prop} {pos pos' cpos:Pos} {elt it tg:Expr} {ifs:List Expr} {f fi fe:F} {fc:Option F} {sc:Scope} {k:Nat} {cs:List Nat} {xs:List Str}
theorem g9 {s2:Shared} {h':Heap} (I3:Inv X pins σ H3 s3) (I2:Inv X pins σ2 H' s2) (hf:H' s3.heap.objs.size=none) (sb:Heap.SameBut s3.heap.objs.size s2.heap h'):Inv X pins σ2 H' { s2 with heap:=h' }:=by
 refine I2.turned (t':=s2.toks) (it:=s3.heap.objs.size) (fun b o ne e=>(sb.2 b ne).trans e) hf ?_ (.inr I3.sz) (fun x c h z=> ?_) fun p hp z=> ?_
 ·intro z
  obtain⟨m,hn,_⟩:=I3.loc
  obtain⟨o,_,_,ho,_⟩:=hn
  exact absurd (Heap.lt_size ho) (by rw [←z];exact Nat.lt_irrefl _)
 ·obtain⟨v,o,ho,_⟩:=I3.cell x c h
  exact absurd (Heap.lt_size ho) (by rw [z];exact Nat.lt_irrefl _)
 ·obtain⟨ho,_⟩:=I3.pin p hp
  exact absurd (Heap.lt_size ho) (by rw [z];exact Nat.lt_irrefl _)
theorem oE {h h':Heap} {a C:Addr} {m:Str→Option Value} (n:h.Ns C m) (sb:Heap.SameBut a h h') (ne:C≠a):h'.Ns C m:=by
 obtain⟨o,es,ep,ho,r⟩:=n
 exact⟨o,es,ep,(sb.2 C ne).trans ho,r⟩
theorem sH {C:Ctx} {i:Nat} {x:Str} (hN:X.N.Nodup) (hi:NmOk X x i) (hc:X.calm=true) (S:CompSc X C sc xs cs) (hit:MI X ad tg it fi) (hset: ∀ a b c,it≠ .Set a b c) (hxs:xs.length=if k=0 then 1 else k)
  (hg: ∀ fp s3 H3 pins',PG (cX X (xs++frees sc) sc s3 H3 fp pins') tg (gTg X.K k)) (hts: ∀ fp s3 H3 pins',MTs (cX X (xs++frees sc) sc s3 H3 fp pins') ad ifs fc) (he: ∀ fp s3 H3 pins',ME (cX X (xs++frees sc) sc s3 H3 fp pins') ad elt fe)
  (hs:swapsWith (.ListComp elt [⟨tg,it,ifs,0⟩] sc cpos) (some (.Name x pos')) pos.line X.env=pure true):
  PS X (.Assign [.Name x pos'] (.ListComp elt [⟨tg,it,ifs,0⟩] sc cpos) pos) (tAsg (tE X ad (rComp k cs fi fc fe)) (gName i)):=by
 intro pins s σ H D' I ⟨G,ρ,E,hG,hS,hx,hr⟩
 rw [exec_Assign_Name_used _ _ _ _ hs]
 have hcl:closureFor sc X.env=pure (clOf X.env.cells sc.names []):=cF fun x hx=>by
  obtain⟨c,h⟩:=I.ok.has x (S.fre x hx)
  rw [h];rfl
 refine wpAny_bind (wpAny_standAt (wpAny_bind ?_))
 show wpAny _ X.A (do let _←comprehension (.ListComp elt [⟨tg,it,ifs,0⟩] sc cpos) sc X.env _ (newList []) false (eval it X.env) (some (assign (.Name x pos') X.env))) _ _ s
 refine wpAny_bind (wpAny_mono (wpAny_comprehension_free (use:=some (assign (.Name x pos') X.env)) (Q:=fun _ s'=>SP X pins D' .next s') rfl (noSet hset) hcl S.kind S.names ?_) (fun _ s' hq=>wpAny_pure (wpAny_pure hq)) fun _ _ e=>e)
 refine L2.thn (hit pins s σ H _ I ⟨G,ρ,E,hG,hS,hx,v5 (W:=fun J H2=> ∃ G2 ds all,Step G H G2 H2∧ItH X ad J G2 H2 ds∧compGo (compF k (caps cs ρ) fc fe) ds=some all∧RK X.K ad G2 H2 (.ow all) (fun v H1=>gName i v σ H1 D'.nx) E) hr fun J G2 H2 ds all a b c d=>⟨G2,ds,all,a,b,c,d⟩⟩) fun v s1 h1=>
  L2.thn h1 fun itv s2 hz_=> ?_
 obtain⟨itA,fp,tn,J,H2,e,I2,T,st2,f2,G2,ds,all,sp,hit,hgo,hr2⟩:=hz_
 subst e
 obtain⟨σc,l1,l2,l3⟩:=eC (xs:=xs) (sc:=sc) (nt:=if k=0 then 1 else k) hxs S.N S.cs (fun x h=>fU h) (hS.step sp) I2.len
 refine fT (σc:=σc) hc I2 T st2 f2 hit hgo sp.gh S.kind S.cell S.fre S.frl l1 l2 rfl l3 (hg fp) (hts fp) (he fp) fun s3 s' H3 H' G' σ' D vs I3 f3 J' sp' hD gD hD' r'=> ?_
 obtain⟨m,hns,_⟩:=J'.loc
 have I4:Inv X pins σ H' s':=p8 (fpO:=f3) I3 J' ⟨rfl,fun _ _=>rfl⟩
 show wpAny _ X.A (assign (.Name x pos') X.env (.ref D)) _ _ _
 refine wpAny_assign_Name (eZ I4 hN hi.1 hi.2.1 (v:= .ref D) rfl (fun s'' I5 ⟨a,sb,ha⟩=> ?_) hi.2.2)
 have ne:s3.heap.objs.size≠a:=by
  rcases ha with rfl | ha
  ·intro z
   obtain⟨m',hn,_⟩:=I3.loc
   obtain⟨o,_,_,ho,_⟩:=hn
   exact absurd (Heap.lt_size ho) (by rw [←z];exact Nat.lt_irrefl _)
  ·intro z
   obtain⟨v,o,ho,_⟩:=I3.cell x a ha
   exact absurd (Heap.lt_size ho) (by rw [←z];exact Nat.lt_irrefl _)
 refine⟨m,oE hns sb ne,fun h' sb'=> ?_⟩
 exact⟨σ.set i (some (.ref D)),H',g9 I3 I5 J'.free sb',hr2 D vs G' H' sp' hD gD hD' r'⟩
end
section
variable {X:Cx} {ad:Ad} {Z:(St→Nat→Hp→Prop)→Prop} {e:Expr} {f:F}
noncomputable def tOwnI (K:PySem.W.Frag) (i:Nat):TI:=fun σ H W=> ∃ a vs,σ[i]? =some (some (.ref a))∧SqL K H a vs∧W (Itl K a) H
theorem wC {tg:Expr} {i:Nat} {x:Str} {p:Pos} (hN:X.N[i]? =some x) (hv:Vis X.env.scope x) (hd:(x==("__debug__":Str))=false) (hcd:(x==("__classdict__":Str))=false):PI X tg (.Name x p) (tOwnI X.K i):=by
 intro pins s σ H W I ⟨a,vs,h1,hq,hw⟩
 refine L2.thn (aS hN hv hd hcd pins s σ H (fun v H1=>v= .ref a∧H1=H) I ⟨.ref a,h1,rfl,rfl⟩) fun u s1 ⟨v,H1,I1,r1,e1,e2⟩=> ?_
 subst e1 e2
 cases (show u=Value.ref a from r1)
 obtain⟨its,rv,pt,hz⟩:=I1.list hq
 refine wpAny_pyIter_list pt.isList ?_
 refine⟨s1.heap.objs.size,[s1.heap.objs.size],_,_,H1,rfl,I1.kept (t':=s1.toks) fun b o e=>Heap.get?_push_of_some _ e,dB a _,⟨_,Heap.get?_push_size _ rfl,rfl,rfl⟩,fun b hb=> ?_,hw⟩
 have e:b=s1.heap.objs.size:=by simpa using hb
 subst e
 exact I1.fpOk (Nat.le_refl _) (I1.hok.fresh (Nat.le_refl _))
theorem sI {i j t:Nat} {x y z:Str} {px py p ap cp pos pos':Pos} (hp:PassesOwn (model X.prog X.w) X.A X.env X.xe) (hc:X.calm=true) (hND:X.N.Nodup) (hy1:X.N[i]? =some y) (hy2:Vis X.env.scope y) (hy3:(y==("__debug__":Str))=false) (hy4:(y==("__classdict__":Str))=false)
  (hz1:X.N[j]? =some z) (hz2:Vis X.env.scope z) (hz3:(z==("__debug__":Str))=false) (hz4:(z==("__classdict__":Str))=false) (ht:NmOk X x t) (hti:t≠i) (hij:i≠j) (he:ME X ad e f) (hs:starEach [e] X.env=(false,eval e X.env)::starEach [] X.env)
  (hline:(ap.endLine==cp.line)=true):MS X ad Z (.For (.Name x px) (.Name y py) [.Expr (.Call (.Attribute (.Name z p) "extend" ap) [e] [] cp) pos'] [] pos) (sForX t i (sExt j f)):=by
 refine PS.imp (pS hp hc (wC hy1 hy2 hy3 hy4) (bY hND ht.1 ht.2.1 ht.2.2) (gJ (dA (nV (T:="list") PySem.F.plainAttrs_list PySem.F.slot_list_extend PySem.F.type_list_extend qB (aS hz1 hz2 hz3 hz4) (aQ he bA hs) rfl (bG hs) hline hs rfl) rfl)) (fun _=>rfl)) ?_
 rintro D' σ H ⟨G₀,G,ρ,E,S,hx,hr⟩
 unfold sForX at hr
 cases q:ρ[i]? with
 | none=>rw [q] at hr;exact hr.elim
 | some sl=>
  rw [q] at hr
  cases sl with
  | no=>exact hr.elim
  | sh d=>exact hr.elim
  | dc d=>exact hr.elim
  | sd d=>exact hr.elim
  | ow ds=>
   have hr:OKo X ad G₀ (forGo (tgtS [t] true) (sExt j f) ds ρ) D' E:=hr
   obtain⟨a,vs,h1,h2,h3,h4⟩:=S.sl.ow q
   refine⟨a,vs,h1,SqL.of h3,fun k m σ H=>m=ds.length - k∧k≤ds.length∧ ∃ G ρ,SS X ad G₀ G H ρ σ∧σ[i]? =some (some (.ref a))∧ρ[i]? =some (.ow ds)∧OKo X ad G₀ (forGo (tgtS [t] true) (sExt j f) (ds.drop k) ρ) D' E,⟨_,rfl,Nat.zero_le _,G,ρ,S,h1,q,hr⟩, ?_⟩
   rintro k m σ1 H1 ⟨rfl,hk,G1,ρ1,S1,ha,hρ,hr1⟩
   obtain⟨a',vs1,e1,g1,l1,rp1⟩:=S1.sl.ow hρ
   rw [ha] at e1
   cases e1
   cases qd:ds[k]? with
   | none=>
    have hl:ds.length≤k:=List.getElem?_eq_none_iff.mp qd
    have:k=ds.length:=by omega
    subst this
    refine .inl ⟨⟨vs1,SqL.of l1,by rw [rp1.length];exact Nat.le_refl _⟩, ?_⟩
    rw [List.drop_length] at hr1
    exact hr1 σ1 G1 H1 S1
   | some d=>
    have hlt:k<ds.length:=(List.getElem?_eq_some_iff.mp qd).1
    obtain⟨v,ev,rv⟩:=rp1.get qd
    refine .inr ⟨⟨vs1,v,SqL.of l1,ev⟩,fun σ' H'=> ∃ G ρ,SS X ad G₀ G H' ρ σ'∧σ'[i]? =some (some (.ref a))∧ρ[i]? =some (.ow ds)∧OKo X ad G₀ (forGo (tgtS [t] true) (sExt j f) (ds.drop (k+1)) ρ) D' E,fun σ' H' ⟨Ga,ρa,Sa,sa,qa,ra⟩=>⟨_,by omega,rfl,hlt,Ga,ρa,Sa,sa,qa,ra⟩, ?_⟩
    rintro v' H2 ⟨rfl,yv⟩
    have:=yv vs1 (SqL.of l1)
    rw [ev] at this
    cases this
    rw [lO qd] at hr1
    unfold forGo at hr1
    have hr2:OKo X ad G₀ (match sExt j f (ρ1.set t (.sh d)) with
     | .nx ρ2=>forGo (tgtS [t] true) (sExt j f) (ds.drop (k+1)) ρ2
     | .ct ρ2=>forGo (tgtS [t] true) (sExt j f) (ds.drop (k+1)) ρ2
     | .bk ρ2=> .nx ρ2
     | .rt r=> .rt r
     | .ex c ρ2=> .ex c ρ2) D' E:=hr1
    clear hr1
    have S2:SS X ad G₀ G1 H2 (ρ1.set t (.sh d)) (σ1.set t (some v)):=S1.set rv
    have ha2:(σ1.set t (some v))[i]? =some (some (.ref a)):=by rw [List.getElem?_set_ne hti];exact ha
    have hρ2:(ρ1.set t (.sh d))[i]? =some (.ow ds):=by rw [List.getElem?_set_ne hti];exact hρ
    generalize ρ1.set t (.sh d)=ρ2 at S2 hρ2 hr2
    cases q2:ρ2[j]? with
    | none=>
     have:sExt j f ρ2= .rt .bad:=by unfold sExt;rw [q2]
     rw [this] at hr2;exact hr2.elim
    | some sl=>
     have bad: ∀ sl,ρ2[j]? =some sl→(∀ xs,sl≠ .ow xs)→sExt j f ρ2= .rt .bad:=fun sl q2 h=>by
      unfold sExt;rw [q2]
      cases sl with
      | ow xs=>exact absurd rfl (h xs)
      | _=>rfl
     cases sl with
     | no=>rw [bad _ q2 (fun _ z=>nomatch z)] at hr2;exact hr2.elim
     | sh d=>rw [bad _ q2 (fun _ z=>nomatch z)] at hr2;exact hr2.elim
     | dc d=>rw [bad _ q2 (fun _ z=>nomatch z)] at hr2;exact hr2.elim
     | sd d=>rw [bad _ q2 (fun _ z=>nomatch z)] at hr2;exact hr2.elim
     | ow xs=>
      obtain⟨b,ws,b1,b2,b3,b4⟩:=S2.sl.ow q2
      refine⟨.ref b,b1, .inl ⟨rfl,ws,SqL.of b3⟩, ?_⟩
      have es:sExt j f ρ2=outR ρ2 (f ρ2) fun d=>(match d with
       | .lst ys=>if xs.length+ys.length≤LIM then .nx (ρ2.set j (.ow (xs++ys))) else .rt .bad
       | _=> .rt .bad):=by unfold sExt;rw [q2]<;>rfl
      have fin: ∀ (ys:List D) (w:V) (G3 H3:Hp),Step G1 H2 G3 H3→Rep X.K ad G3 (.lst ys) w→OKo X ad G₀ (match(if xs.length+ys.length≤LIM then Out.nx (ρ2.set j (.ow (xs++ys))) else .rt .bad) with
        | .nx ρ2=>forGo (tgtS [t] true) (sExt j f) (ds.drop (k+1)) ρ2
        | .ct ρ2=>forGo (tgtS [t] true) (sExt j f) (ds.drop (k+1)) ρ2
        | .bk ρ2=> .nx ρ2
        | .rt r=> .rt r
        | .ex c ρ2=> .ex c ρ2) D' E→rExt X.K (.ref b) [w] H3 fun _ H4=> ∃ G ρ,SS X ad G₀ G H4 ρ (σ1.set t (some v))∧(σ1.set t (some v))[i]? =some (some (.ref a))∧ρ[i]? =some (.ow ds)∧OKo X ad G₀ (forGo (tgtS [t] true) (sExt j f) (ds.drop (k+1)) ρ) D' E:=by
       intro ys w G3 H3 st r hr3
       by_cases hcl:xs.length+ys.length≤LIM
       ·rw [if_pos hcl] at hr3
        obtain⟨g3,h3'⟩:=aP st b2 b3
        unfold Rep at r
        obtain⟨c,us,rfl,hq,rq⟩:=r
        refine⟨b,c,ws,us,rfl,rfl,h3',st.gh.seq hq, ?_,G3,ρ2.set j (.ow (xs++ys)),(S2.step st).upd q2 b1 g3 ((b4.mono st.sg).append rq),ha2,by rw [List.getElem?_set_ne (Ne.symm hij)];exact hρ2,hr3⟩
        rw [b4.length,rq.length]
        exact Nat.le_trans hcl (by decide)
       ·rw [if_neg hcl] at hr3
        exact hr3.elim
      rw [es] at hr2
      refine⟨G1,ρ2,E (σ1.set t (some v)),S2.st.gh,S2.sl,hx.1 _, ?_⟩
      unfold outR at hr2
      cases ef:f ρ2 with
      | ok d=>
       rw [ef] at hr2
       intro v3 G3 H3 st r
       cases d<;>try exact hr2.elim
       rename_i ys
       exact fin ys v3 G3 H3 st r hr2
      | ow ys=>
       rw [ef] at hr2
       intro p3 vs3 G3 H3 st n m3 e3 r3
       obtain⟨G4,st4,r4⟩:=aO (X:=X) (ad:=ad) st n m3 e3 r3
       exact fin ys _ G4 H3 st4 r4 hr2
      | ex c=>
       rw [ef] at hr2
       exact fun G3 H3 st=>hr2 _ G3 H3 (S2.step st)
      | bad=>rw [ef] at hr2;exact hr2.elim
end
open PySem.W PySem.Calls Builtin Builtin.ObjectAttr Builtin.Getset_descriptor
section
variable {prog:Program} {w:World} {A:Around} {E:Value→Shared→Prop} {s:Shared} {K:Frag} {x C:Addr} {R:Result→Shared→Prop}
theorem ExcAt.ty {M:Model} {h:Heap} (I:ExcAt h x C):Looks M h (typeOf (.ref x)) (.ref C):=by
 obtain⟨o,vs,h1,h2,h3⟩:=I
 exact h2▸(Looks.ld h1).andThen .now
theorem sJ {tp:Value} (X:K.In s.heap) (I:ExcAt s.heap x C) (hm:mroIn K C (.type "object")=some true) (h:R (.ok (.ret (.ref C))) s):
  codeAny (model prog w) A (.call (.builtin "getset_descriptor.__get__") ⟨[.builtin "object.__class__", .ref x,tp],[]⟩) R s:=by
 obtain⟨hh,g,dr,t,os⟩:=s
 have L0:=I.ty (M:=model prog w)
 have L1:=looks_mroIn (M:=model prog w) X hm
 refine codeAny_call_builtin KF.slot_gs.plain KF.entry_gs (KF.slot_gs.check _ _ _ _ _ _ _ _ KF.type_class (KF.args_gs _ _ _) ?_)
 unfold Builtin.«getset_descriptor.__get__» descrGet
 rw [dga_obj]
 refine wpAny_bind (wpAny_pure ?_)
 unfold descrGetter descrCheckInstance descrNameAndClass isInstance
 simp only [KF.owner_class]
 repeat lk
 refine⟨Code.quiet_builtin _ (by decide+kernel),codeAny_builtin KF.entry_class ?_⟩
 unfold Builtin.«object.__class__» shownTypeOf
 repeat lk
 exact h
theorem lP {M:Model} {nameV:Value} {Q:Unit→Shared→Prop} (X:K.In s.heap) (I:ExcAt s.heap x C) (hm:mroIn K C (.type "BaseException")=some true) (hq:Q () s):wpAny M A (checkBuiltinCall "BaseException.__getattribute__" ⟨[.ref x,nameV],[]⟩) Q E s:=by
 obtain⟨hh,g,dr,t,os⟩:=s
 have hk:builtinKind "BaseException.__getattribute__"=some .slot:=by decide+kernel
 have hsplit:splitId "BaseException.__getattribute__"=some ("BaseException","__getattribute__"):=by decide+kernel
 have L0:=I.ty (M:=M)
 have L1:=looks_mroIn (M:=M) X hm
 have ha:=F.args_bexc_ga (.ref x) nameV
 simp only [checkBuiltinCall,hk,hsplit]
 refine wpAny_bind ?_
 unfold isInstance
 refine wpAny_bind (L0.at (L1.at ?_))
 repeat (any_goals (first | assumption | wp_step))
theorem lQ {tk:Tok} {Q:PySem.Fin→Shared→Prop} (X:K.In s.heap) (I:ExcAt s.heap x C) (hm:mroIn K C (.type "object")=some true) (ha:findIn K (.ref C) "__class__"=some (some (.builtin "object.__class__"))) (hq:Q (.done (.ret (.ref C))) s):
  wpAny (model prog w) A (Builtin.«object.__getattribute__» ⟨[.ref x, .str "__class__" tk],[]⟩) Q E s:=by
 obtain⟨hh,g,d,t,os⟩:=s
 have hT5:(⟨hh,g,d,t,os⟩:Shared).TypeIs (.builtin "object.__class__") "getset_descriptor":=F.typeOf_object_class
 have f5:=F.typeOf_object_class
 have f6:=F.slot_gs_get.lookup
 have f7:=F.slot_gs_set.lookup
 have L0:=I.ty (M:=model prog w)
 have L1:=looks_findIn (M:=model prog w) X ha
 obtain⟨o,vs,hx,hc,hd⟩:=id I
 repeat (any_goals (first | assumption | (with_reducible refine wpAny_loadPart_at hx ?_;rw [hc]) | with_reducible refine L1.at ?_ | wp_step))
 refine sJ X I hm ?_
 repeat (any_goals (first | assumption | wp_step))
theorem lR {Q:Option Value→Shared→Prop} (X:K.In s.heap) (I:ExcAt s.heap x C) (hm:mroIn K C (.type "object")=some true) (hb:mroIn K C (.type "BaseException")=some true) (ha:findIn K (.ref C) "__class__"=some (some (.builtin "object.__class__")))
  (hg:findIn K (.ref C) "__getattribute__"=some (some (.builtin "BaseException.__getattribute__"))) (hn:findIn K (.ref C) "__getattr__"=some none) (h:Q (some (.ref C)) { s with toks:=s.toks+1 }):
  wpAny (model prog w) A (getAttr? (.ref x) "__class__") Q E s:=by
 obtain⟨hh,g,d,t,os⟩:=s
 have L0:=I.ty (M:=model prog w)
 have L1:=looks_findIn (M:=model prog w) X hg
 have L2:=looks_findIn (M:=model prog w) X hn
 have f3:=PySem.F.excAttr_ValueError.ga.bind (.ref x)
 have hx2:(Value.builtin "BaseException.__getattribute__"==Value.builtin "object.__getattribute__")=false:=by decide+kernel
 have hx1:(onTheHeap (Value.ref C)&&Value.builtin "BaseException.__getattribute__"==Value.builtin "object.__getattribute__")=false:=by rw [hx2];rfl
 obtain⟨o,vs,hx,hc,hd⟩:=id I
 unfold getAttr? getAttrBy? getAttrBy
 repeat (any_goals (first | assumption | (with_reducible refine wpAny_loadPart_at hx ?_;rw [hc]) | with_reducible refine L1.at ?_ | with_reducible refine L2.at ?_ | wp_step))
 refine codeAny_call_builtin PySem.F.excAttr_ValueError.ga.plain F.entry_bexc_ga (lP X I hb (lQ X I hm ha ?_))
 repeat (any_goals (first | assumption | wp_step))
end
theorem _root_.L2.ObjOk.there {P:Program} {w:World} {H:Hp} {h:Heap} {a:Addr} {o:HO} (x:ObjOk P w H h a o): ∃ ob,h.get? a=some ob:=by
 cases o with
 | lst xs=>obtain⟨_,_,_,_,e⟩:=x;exact⟨_,e⟩
 | tup xs=>obtain⟨_,_,_,⟨ob,e,_⟩,_⟩:=x;exact⟨_,e⟩
 | dK kvs=>obtain⟨_,_,_,_,o,_,_,e,_⟩:=x;exact⟨_,e⟩
 | dT kvs=>obtain⟨_,_,_,_,o,_,_,e,_⟩:=x;exact⟨_,e⟩
 | set S n=>obtain⟨o,_,_,_,e,_⟩:=x;exact⟨_,e⟩
 | ins C dx fs=>obtain⟨_,_,_,e,_⟩:=x;exact⟨_,e⟩
 | own y=>exact x
 | xd fs=>obtain⟨_,⟨_,_,_,e,_⟩,_⟩:=x;exact⟨_,e⟩
 | rng lo hi=>obtain⟨_,_,_,e⟩:=x;exact⟨_,e⟩
 | frz ob u=>obtain⟨e,_⟩:=x;exact⟨_,e⟩
 | tbl ps=>exact⟨_,(show h.get? a=some _ from x)⟩
 | met f y=>exact⟨_,(show h.get? a=some _ from x)⟩
 | ext φ=>obtain⟨_,e,_⟩:=x;exact e
section
variable {X:Cx} {ad:Ad} {pins:List (Addr×Obj)} {s:Shared} {σ:St} {H H':Hp} {B h':Heap} {ea:Addr} {cls a0:Value} {E₀:XK} {E:Nat→Hp→Prop}
structure DefX (X:Cx) (E₀:XK):Prop where
 ex:X.ex=[]
 stk:X.stack=X.env::X.outer
 fr:X.env.frame=some X.env.locals
 xe: ∀ e s',wpAny (model X.prog X.w) X.A (leaving X.env e) (fun _ s''=>CXe X.prog X.w X.outer X.H₀ X.s₀ E₀ e s'') (fun e' s''=>CXe X.prog X.w X.outer X.H₀ X.s₀ E₀ e' s'') s'→X.xe e s'
theorem iW (J:Inv X pins σ H s) {b:Addr} {o:Obj} (e:X.s₀.heap.get? b=some o):b≠X.env.locals:=fun z=>by
 have:=Heap.lt_size e
 rw [z] at this
 exact absurd (Nat.lt_of_lt_of_le this J.ok.above) (Nat.lt_irrefl _)
theorem lT (J:Inv X pins σ H s) {b:Addr} {o:Obj} (e:X.s₀.heap.get? b=some o) (nf:b∉X.fs):b∉frs X.stack:=fun z=>by
 rcases List.mem_cons.mp (J.stkSub b z) with q | q
 ·exact iW J e q
 ·exact nf q
theorem qD (T:DefX X E₀) (J:Inv X pins σ H' s) (fly:Heap.FlyingW B X.outer ea cls a0 h') (ff:s.heap.FunFrames B X.stack) (stays:B.StaysIn s.heap) (up:s.heap.UpToSlots h')
  (c8: ∀ b o,X.s₀.heap.get? b=some o→b∉X.fs→ ∃ o',B.get? b=some o') (c9: ∀ b o,H' b=some o→ ∃ o',B.get? b=some o') (ne:H' ea=none) (q:E₀ cls none H'):
  CXe X.prog X.w X.outer X.H₀ X.s₀ E₀ (.ref ea) { s with heap:=h' }:=by
 have nx: ∀ b,b∉X.ex:=fun b=>by rw [T.ex];simp
 have st2:B.StaysIn h':=fly.1
 have inB: ∀ b o,s.heap.get? b=some o→(∃ o',B.get? b=some o')→h'.get? b=some o:=fun b o e ⟨o',e'⟩=>by
  have:=stays b o' e'
  rw [e] at this
  cases this
  exact st2 b o e'
 have frame: ∀ b∈X.fs, ∀ o,s.heap.get? b=some o→ ∃ sl,h'.get? b=some { o with slots:=sl }:=fun b hb o e=>by
  obtain⟨_,o2,e2,nf⟩:=ff.mem (b:=b) (by rw [T.stk];show b∈frs (X.env::X.outer);unfold frs;rw [List.filterMap_cons,T.fr];exact List.mem_cons_of_mem _ hb)
  rw [e] at e2
  cases e2
  exact up b o e nf
 refine⟨ea,cls,a0,H',B,rfl,J.os,J.bare,fly,⟨fun b o e n hf _=> ?_,fun b o e n hf _=> ?_,fun b o e n _=> ?_,fun b o e _=> ?_,J.base.tups,J.base.frzs,J.base.tbls⟩,fun b o e=> ?_,ne,c8,c9,q⟩
 ·exact inB b o (J.base.keep b o e n hf (nx b)) (c8 b o e hf)
 ·obtain⟨sl,e1⟩:=J.base.slot b o e n hf (nx b)
  obtain⟨sl',e2⟩:=frame b hf _ e1
  exact⟨sl',e2⟩
 ·exact J.base.free b o e n (nx b)
 ·obtain⟨o',e1⟩:=J.base.there b o e (nx b)
  by_cases hf:b∈X.fs
  ·obtain⟨sl,e2⟩:=frame b hf _ e1
   exact⟨_,e2⟩
  ·exact⟨o',inB b o' e1 (c8 b o e hf)⟩
 ·refine(J.hok b o e).stay (fun c v hc e1=> ?_) (fun _ z=>z) fun _ _ z=>z
  rcases hc with rfl | hc
  ·exact inB c v e1 (c9 c o e)
  ·exact inB c v e1 (c9 c _ hc)
theorem qF (T:DefX X E₀):XP X ad σ (fun c H'=>E₀ (.ref (ad.cls c)) none H'):=by
 intro pins H s e s' I hc
 obtain⟨ea,cls,a0,H',B,rfl,ho,hg,fly,un,hok,ne,c8,c9,c,rfl,q⟩:=hc
 have J:Inv X pins σ H' s':=I.call' (ch:=[]) ho un hok hg fun b hb=>by simp at hb
 refine T.xe _ _ ?_
 have hfr:X.A.frames=some (X.env::X.outer):=by rw [←T.stk];exact I.ok.frames
 rw [T.stk] at fly
 refine wpAny_leaves_onW hfr T.fr fly fun h' fly' up=> ?_
 refine qD T J fly' (by rw [T.stk];exact fly.2.2.1) fly.1 up (fun b o e hf=> ?_) c9 ne q
 obtain⟨o',e1⟩:=I.base.there b o e (by rw [T.ex];simp)
 exact c8 b o' e1 (lT I e hf)
theorem oF {x:Str} {C:Addr} {np cpos pos kp:Pos} {msg:Str} {j:Nat} {D':Ends} (T:DefX X E₀) (hc:X.calm=true) (hg:L2.Gl X x) (hm:X.mg x=some (.ref C)) (hd:(x==("__debug__":Str))=false) (hi:excIn X.K C [.type "ValueError", .type "Exception", .type "BaseException", .type "object"] "ValueError.__new__"=true)
  (I:Inv X pins σ H s) (q:E₀ (.ref C) none H):wpAny (model X.prog X.w) X.A (exec (.Raise (some (.Call (.Name x np) [.Constant (.str msg) j kp] [] cpos)) none pos) X.env) (SP X pins D') X.xe s:=by
 have obj: ∀ h₀:Heap,X.K.In h₀→ ∃ bm N nm q bs hdct sn sub ab col dd k0 k1 k2 k3 k5 mN,h₀.get? C=some (excClassObj nm q C N bs bm hdct sn sub ab col dd k0 k1 k2 k3 k5 "ValueError.__new__")∧h₀.Ns N mN∧mN "__init__"=none∧OwnTail h₀ [.type "ValueError", .type "Exception", .type "BaseException", .type "object"] bm:=by
  intro h₀ Z
  have q:=hi
  unfold excIn at q
  split at q
  ·rename_i dd cd sl ho
   split at q
   ·rename_i C' bm k0 k1 k2 k3 n k5 hm hs
    simp only [Bool.and_eq_true,beq_iff_eq,Bool.not_eq_true'] at q
    obtain⟨⟨⟨⟨⟨rfl,rfl⟩,hdel⟩,ht⟩,hok⟩,hni⟩:=q
    obtain⟨nm,bs,mro,ns,qn,hd,sn,sub,ab,col,del⟩:=cd
    dsimp only at hm hdel hok hni
    subst hm hdel
    have hsl:sl= #[k0,k1,k2,k3,some (.builtin "ValueError.__new__"),k5]:=by
     obtain⟨l⟩:=sl
     simp only at hs
     rw [hs]
    subst hsl
    exact⟨bm,ns,nm,qn,bs,hd,sn,sub,ab,col,dd,k0,k1,k2,k3,k5,_,Z _ _ ho, .of_isNs (isNs_of_in Z hok),nsMap_none_of_in Z hok hni,tail_of_in Z ht⟩
   ·cases q
  ·cases q
 obtain⟨bm,N,nm,qn,bs,hdct,sn,sub,ab,col,dd,k0,k1,k2,k3,k5,mN,hC,hN,hni,hT⟩:=obj X.base I.ok.mod.kin
 refine wpAny_Raise_call_subT (C:=C) (nm:=nm) (q:=qn) (N:=N) (bs:=bs) (bm:=bm) (hdct:=hdct) (sn:=sn) (sub:=sub) (ab:=ab) (col:=col) (dd:=dd) (k0:=k0) (k1:=k1) (k2:=k2) (k3:=k3) (k5:=k5)
  PySem.F.excBase_ValueError (mN:=mN) (hT.hasType PySem.F.excBase_ValueError.hasBase) (I.ok.hd hc) rfl hni (bX I hg hm ⟨rfl, ?_⟩ hd)
 refine Calls.evalArgs_plain (Calls.spliced_cons (Calls.Constant_str (k:=j) (pos:=kp) (Calls.spliced_nil ⟨rfl,(show 1≤sizeLine from by decide), ?_, ?_, ?_,fun h' e M=> ?_⟩)))
 ·exact I.bk _ _ hC
 ·exact hN.keeps I.bk
 ·exact hT.keeps I.bk
 ·-- the frame is left
  have I1:Inv X pins σ H { s with toks:=s.toks+1 }:=I.tok _
  have J:Inv X pins σ H { s with heap:=h',toks:=s.toks+1 }:=I.kept (t':=s.toks+1) M.keeps
  refine T.xe _ _ ?_
  have hfr:X.A.frames=some (X.env::X.outer):=by rw [←T.stk];exact I.ok.frames
  have ff:s.heap.FunFrames (hideAll s.heap (frs X.stack)) X.stack:=funFrames_hide I.stack fun env he a ea=>List.mem_filterMap.mpr ⟨env,he,ea⟩
  have fk:h'.FunFrames (hideAll s.heap (frs X.stack)) X.stack:=ff.of_keeps fun b o hb _=>⟨o,M.keeps b o hb,rfl⟩
  have stays:(hideAll s.heap (frs X.stack)).StaysIn s.heap:=fun b o e=>of_hideAll _ e
  have ff0:=ff
  rw [T.stk] at ff0
  have stays':(hideAll s.heap (frs (X.env::X.outer))).StaysIn s.heap:=fun b o e=>of_hideAll _ e
  refine wpAny_leaves_madeW (h:=s.heap) (base:=hideAll s.heap (frs (X.env::X.outer))) hfr T.fr stays' ff0 M fun h2 t fly _ _ up=> ?_
  refine qD T J fly (by rw [T.stk] at fk ⊢;exact fk) (fun b o e=>M.keeps b o (of_hideAll _ e)) up (fun b o e hf=> ?_) (fun b o e=> ?_) ?_ q
  ·obtain⟨o',e1⟩:=I.base.there b o e (by rw [T.ex];simp)
   exact⟨o',hideAll_get _ e1 (by have:=lT I e hf;rwa [T.stk] at this)⟩
  ·obtain⟨o',e1⟩:=(I.hok b o e).there
   exact⟨o',hideAll_get _ e1 fun z=>by
    have:=I.stkFree b (by rw [T.stk];exact z)
    rw [this] at e
    cases e⟩
  ·cases z:H e with
   | none=>rfl
   | some o=>
    obtain⟨o',e1⟩:=(I.hok e o z).there
    rw [M.new] at e1
    cases e1
end
section
variable {X:Cx} {ad:Ad} {pins:List (Addr×Obj)} {s:Shared} {σ:St} {H H':Hp} {B h':Heap} {ea:Addr} {cls a0:Value} {E₀:XK}
theorem oG {M:Model} {A:Around} {E:Value→Shared→Prop} {i:Nat} {x:Str} {v:V} {Q:Unit→Shared→Prop} (I:Inv X pins σ H s) (hN:X.N.Nodup) (hi:X.N[i]? =some x) (hk:X.env.scope.names.lookup x=some .local) (hv:σ[i]? =some (some v))
  (h: ∀ s',Inv X pins (σ.set i none) H s'→Q () s'):wpAny M A (unbindName X.env x) Q E s:=by
 obtain⟨m,hn,hl⟩:=id I.loc
 have hcls:(X.env.scope.kind== .class||(X.env.scope.kind== .module&&X.env.locals != X.env.globals))=false:=by rw [I.ok.kind];rfl
 have cne:=I.cne
 obtain⟨u0,_,l0⟩:=hl i x v hi hv (.inl hk)
 have hm:m x=some u0:=by
  rcases l0 with ⟨_,e⟩ | ⟨k,_⟩
  ·exact e
  ·rcases k with k | k
   ·have:X.env.kindOf x=some .local:=hk
    rw [this] at k;cases k
   ·have:X.env.kindOf x=some .local:=hk
    rw [this] at k;cases k
 refine wpAny_unbindName_local hk hn hm hcls fun h' u hn' hs=> ?_
 obtain⟨oL,_,_,hoL,_⟩:=id hn
 refine h { s with heap:=h' } ⟨I.ok,I.os,I.bare,⟨fun b o e n hb hx=> ?_,fun b o e n hb hx=> ?_,I.base.free,fun b o e hx=> ?_,I.base.tups,I.base.frzs,I.base.tbls⟩,⟨_,hn',fun j y v' e1 e2 e3=> ?_⟩,fun y c e=> ?_,I.free,I.freeC,fun p hp=> ?_,fun b ob e=> ?_,by simpa using I.len⟩
 ·exact(hs.2 b (iW I e)).trans (I.base.keep b o e n hb hx)
 ·obtain⟨sl,e1⟩:=I.base.slot b o e n hb hx
  exact⟨sl,(hs.2 b (iW I e)).trans e1⟩
 ·obtain⟨o',e1⟩:=I.base.there b o e hx
  exact⟨o',(hs.2 b (iW I e)).trans e1⟩
 ·by_cases hj:j=i
  ·subst hj
   have hlt:j<σ.length:=(List.getElem?_eq_some_iff.mp hv).1
   rw [List.getElem?_set_self hlt] at e2
   cases e2
  ·rw [List.getElem?_set_ne (Ne.symm hj)] at e2
   obtain⟨u',r',q⟩:=hl j y v' e1 e2 e3
   refine⟨u',r', ?_⟩
   rcases q with ⟨k,e⟩ | ⟨k,c,e,z⟩
   ·refine .inl ⟨k, ?_⟩
    have:y≠x:=fun e=>hj (eJ hN e1 (e▸hi))
    simp [this,e]
   ·exact .inr ⟨k,c,e,z.sameBut hs (cne y c e)⟩
 ·obtain⟨w',z⟩:=I.cell y c e
  exact⟨w',z.sameBut hs (cne y c e)⟩
 ·obtain⟨e,n,ne,nf,d⟩:=I.pin p hp
  exact⟨(hs.2 p.1 ne).trans e,n,ne,nf,d⟩
 ·refine(I.hok b ob e).stay (fun c w' hc q=>(hs.2 c ?_).trans q) (fun _ q=>q) fun _ _ q=>q
  rintro rfl
  rcases hc with rfl | hc
  ·rw [I.free] at e;cases e
  ·rw [I.free] at hc;cases hc
theorem yB {fs:List Addr} {h h1 h2:Heap} (un:Un fs [] H H' h h1) (stays:B.StaysIn h1) (st2:B.StaysIn h2) (up:h1.UpToSlots h2) (nf: ∀ b∈fs, ∀ o,h1.get? b=some o→ ∀ vs,o.data≠ .fields vs) (c8: ∀ b o,h.get? b=some o→b∉fs→ ∃ o',B.get? b=some o'):Un fs [] H H' h h2:=by
 have inB: ∀ b o,h1.get? b=some o→(∃ o',B.get? b=some o')→h2.get? b=some o:=fun b o e ⟨o',e'⟩=>by
  have:=stays b o' e'
  rw [e] at this
  cases this
  exact st2 b o e'
 refine⟨fun b o e n hf hx=>inB b o (un.keep b o e n hf hx) (c8 b o e hf),fun b o e n hf hx=> ?_,un.free,fun b o e hx=> ?_,un.tups,un.frzs,un.tbls⟩
 ·obtain⟨sl,e1⟩:=un.slot b o e n hf hx
  obtain⟨sl',e2⟩:=up b _ e1 (nf b hf _ e1)
  exact⟨sl',e2⟩
 ·obtain⟨o',e1⟩:=un.there b o e hx
  by_cases hf:b∈fs
  ·obtain⟨sl,e2⟩:=up b _ e1 (nf b hf _ e1)
   exact⟨_,e2⟩
  ·exact⟨o',inB b o' e1 (c8 b o e hf)⟩
theorem wD {P:Program} {w:World} {h1 h2:Heap} (hok:HOk P w H' h1) (stays:B.StaysIn h1) (st2:B.StaysIn h2) (c9: ∀ b o,H' b=some o→ ∃ o',B.get? b=some o'):HOk P w H' h2:=by
 have inB: ∀ b o,h1.get? b=some o→(∃ o',B.get? b=some o')→h2.get? b=some o:=fun b o e ⟨o',e'⟩=>by
  have:=stays b o' e'
  rw [e] at this
  cases this
  exact st2 b o e'
 intro b o e
 refine(hok b o e).stay (fun c v hc e1=> ?_) (fun _ z=>z) fun _ _ z=>z
 rcases hc with rfl | hc
 ·exact inB c v e1 (c9 c o e)
 ·exact inB c v e1 (c9 c _ hc)
theorem _root_.L2.Inv.track {a:Addr} {o:HO} (J:Inv X pins σ H s) (hn:H a=none) (n0:X.s₀.heap.get? a=none) (hL:a≠X.env.locals) (hC: ∀ x c,X.env.cells.lookup x=some c→c≠a) (hp: ∀ p∈X.pn++pins,p.1≠a)
  (new:ObjOk X.prog X.w (upd H a o) s.heap a o):Inv X pins σ (upd H a o) s:=by
 refine⟨J.ok,J.os,J.bare,⟨J.base.keep,J.base.slot,fun b ob e n hx=> ?_,J.base.there,fun b xs e=> ?_,fun b ob u e=> ?_,fun b ps e=> ?_⟩,J.loc,J.cell, ?_,fun x c e=> ?_,fun p hq=> ?_,fun b u e=> ?_,J.len⟩
 ·have:b≠a:=fun z=>by rw [z,n0] at e;cases e
  rw [aA this]
  exact J.base.free b ob e n hx
 ·have e1:=J.base.tups b xs e
  rw [aA (aH e1 hn)]
  exact e1
 ·have e1:=J.base.frzs b ob u e
  rw [aA (aH e1 hn)]
  exact e1
 ·obtain⟨m,e1⟩:=J.base.tbls b ps e
  exact⟨m,by rw [aA (aH e1 hn)];exact e1⟩
 ·rw [aA (Ne.symm hL)]
  exact J.free
 ·rw [aA (hC x c e)]
  exact J.freeC x c e
 ·obtain⟨e,n,ne,nf,d⟩:=J.pin p hq
  exact⟨e,by rw [aA (hp p hq)];exact n,ne,nf,d⟩
 ·by_cases hb:b=a
  ·subst hb
   rw [aE] at e
   cases e
   exact new
  ·rw [aA hb] at e
   exact(J.hok b u e).stay (fun _ _ _ q=>q) (fun c q=>by rw [aA (aH q hn)];exact q) fun c xs q=>by rw [aA (aH q hn)];exact q
end
noncomputable def tX (X:Cx) (pins:List (Addr×Obj)) (D':Ends) (hd:ExceptHandler):Cx:=
 { X with pn:=X.pn++pins,xe:=fun e s₁=>wpAny (model X.prog X.w) X.A (noteFrame e X.env) (fun _ s₂=>wpAny (model X.prog X.w) X.A (setFlight e none) (fun _ s₃=>wpAny (model X.prog X.w) X.A (handleBy e X.env [hd]) (SP X pins D') X.xe s₃) X.xe s₂) X.xe s₁ }
section
variable {X:Cx} {ad:Ad} {pins pins':List (Addr×Obj)} {s:Shared} {σ:St} {H H':Hp} {B h':Heap} {ea:Addr} {cls a0:Value} {D':Ends} {hd:ExceptHandler}
theorem yC (I:Inv X pins σ H s):Inv (tX X pins D' hd) [] σ H s:=
 ⟨⟨I.ok.mod,I.ok.kind,I.ok.glob,I.ok.blt,I.ok.above,I.ok.inj,I.ok.has,I.ok.cab,I.ok.hd,I.ok.frames,I.ok.stk,I.ok.exf,I.ok.bs,I.ok.bsz,I.ok.noex,I.ok.exfs,I.ok.funs,I.ok.frf⟩,I.os,I.bare,I.base,I.loc,I.cell,I.free,I.freeC,
  fun p hp=>I.pin p (by have:p∈(X.pn++pins)++[]:=hp;rwa [List.append_nil] at this),I.hok,I.len⟩
theorem wE (I:Inv (tX X pins D' hd) pins' σ H s):Inv X pins σ H s:=
 ⟨⟨I.ok.mod,I.ok.kind,I.ok.glob,I.ok.blt,I.ok.above,I.ok.inj,I.ok.has,I.ok.cab,I.ok.hd,I.ok.frames,I.ok.stk,I.ok.exf,I.ok.bs,I.ok.bsz,I.ok.noex,I.ok.exfs,I.ok.funs,I.ok.frf⟩,I.os,I.bare,I.base,I.loc,I.cell,I.free,I.freeC,
  fun p hp=>I.pin p (List.mem_append_left _ hp),I.hok,I.len⟩
structure Fram (X:Cx):Prop where
 ex:X.ex=[]
 stk:X.stack=X.env::X.outer
 fr:X.env.frame=some X.env.locals
theorem oH {E₀:XK} {x:Str} {c:Nat} {np cpos pos kp:Pos} {msg:Str} {j:Nat} (T:DefX X E₀) (hc:X.calm=true) (hg:L2.Gl X x) (hm:X.mg x=some (.ref (ad.cls c))) (hd:(x==("__debug__":Str))=false) (hi:excIn X.K (ad.cls c) [.type "ValueError", .type "Exception", .type "BaseException", .type "object"] "ValueError.__new__"=true):
  MS X ad (fun E=> ∀ σ c H,E σ c H→E₀ (.ref (ad.cls c)) none H) (.Raise (some (.Call (.Name x np) [.Constant (.str msg) j kp] [] cpos)) none pos) (sRaise c):=by
 intro pins s σ H D' I ⟨G₀,G,ρ,E,S,hx',hr⟩
 exact oF T hc hg hm hd hi I (hx'.2 σ c H (hr σ G H S))
end
structure ExcCls (K:Frag) (C:Addr):Prop where
 is:(clsIn K C).isSome=true
 ob:mroIn K C (.type "object")=some true
 be:mroIn K C (.type "BaseException")=some true
 ca:findIn K (.ref C) "__class__"=some (some (.builtin "object.__class__"))
 ga:findIn K (.ref C) "__getattribute__"=some (some (.builtin "BaseException.__getattribute__"))
 gn:findIn K (.ref C) "__getattr__"=some none
theorem iX {K:Frag} {x C:Addr} (T:ExcCls K C):KitX K (.ref x) (.ref C) (fun h=>ExcAt h x C) where
 ty:=fun _ _ _ I=>I.ty
 it:=fun _ _ Z _=>by
  obtain⟨cdD,hcD⟩:=Option.isSome_iff_exists.mp T.is
  unfold clsIn at hcD
  split at hcD
  ·rename_i c' d' cd' sl' ho
   intro A' Q' E' s' k q
   unfold isType loadHead
   exact wpAny_bind (wpAny_loadPart (k _ _ (Z _ _ ho)) (wpAny_pure q))
  ·cases hcD
 ne:=fun h tp dd its n sl Z htp=>by
  obtain⟨cdD,hcD⟩:=Option.isSome_iff_exists.mp T.is
  refine Bool.eq_false_iff.mpr fun q=> ?_
  have e:C=tp:=Value.ref.inj (beq_iff_eq.mp q)
  subst e
  unfold clsIn at hcD
  split at hcD
  ·rename_i c' d' cd' sl' ho
   have z:=(Z _ _ ho).symm.trans htp
   cases z
  ·cases hcD
 ca:=fun Z I k=>lR Z I T.ob T.be T.ca T.ga T.gn k
noncomputable def tyD (ad:Ad):D→Option Value
 | .non=>some (.type "NoneType")
 | .bl _=>some (.type "bool")
 | .int _=>some (.type "int")
 | .str _=>some (.type "str")
 | .tup _=>some (.type "tuple")
 | .lst _=>some (.type "list")
 | .exc c=>some (.ref (ad.cls c))
 | .fn _=>none
def IsOk (X:Cx) (ad:Ad) (cv:Value) (p:D→Option Bool):Prop:= ∀ d b,p d=some b→ ∃ t,tyD ad d=some t∧kitOne X.K t cv=some b
section
variable {X:Cx} {ad:Ad} {pins:List (Addr×Obj)} {s:Shared} {σ:St} {H G:Hp} {ρ:Rho} {E:Nat→Hp→Prop} {pos p tp:Pos} {a:Expr} {f:F}
theorem sK {A:Around} {Q:Value→Shared→Prop} {Ex:Value→Shared→Prop} {d:D} {v:V} {u t cv:Value} {b:Bool} (hx: ∀ c,ExcCls X.K (ad.cls c)) (I:Inv X pins σ H s) (hG:Same G H) (q:Rep X.K ad G d v) (r:RelV v u) (ht:tyD ad d=some t) (e:kitOne X.K t cv=some b)
  (h: ∀ tk,Q (.bool b) { s with toks:=tk }):wpAny (model X.prog X.w) A (call (.builtin "isinstance") [u,cv]) Q Ex s:=by
 cases d with
 | non=>unfold Rep at q;subst q;cases (show u=Value.none from r);cases ht;exact kia_one kitx_none I.kIn True.intro e (by intro z;cases z) h
 | bl k=>unfold Rep at q;subst q;cases (show u=Value.bool k from r);cases ht;exact kia_one kitx_bool I.kIn True.intro e (by intro z;cases z) h
 | int k=>unfold Rep at q;subst q;obtain⟨t',rfl⟩:=r;cases ht;exact kia_one kitx_int I.kIn True.intro e (by intro z;cases z) h
 | str k=>unfold Rep at q;subst q;obtain⟨t',rfl⟩:=r;cases ht;exact kia_one kitx_str I.kIn True.intro e (by intro z;cases z) h
 | tup ds=>
  unfold Rep at q
  obtain⟨p,vs,rfl,hp,_⟩:=q
  cases (show u=Value.ref p from r)
  cases ht
  obtain⟨its,_,⟨o,h1,h2,_⟩,_⟩:=I.tuple (hG.seqT hp)
  exact kia_one kitx_tuple I.kIn ⟨o,h1,h2⟩ e (by intro z;cases z) h
 | lst ds=>
  unfold Rep at q
  obtain⟨p,vs,rfl,hp,_⟩:=q
  cases (show u=Value.ref p from r)
  cases ht
  obtain⟨its,_,⟨o,n,h1,h2,_⟩,_⟩:=I.list (hG.seq hp)
  exact kia_one kitx_list I.kIn ⟨o,h1,h2⟩ e (by intro z;cases z) h
 | exc c=>
  unfold Rep at q
  obtain⟨p,rfl,hp⟩:=q
  cases (show u=Value.ref p from r)
  cases ht
  obtain⟨ex,_,_⟩:=(show ObjOk X.prog X.w H s.heap p (excO (ad.cls c) p) from I.hok p _ (hG _ _ hp))
  exact kia_one (iX (hx c)) I.kIn ex e (by intro z;cases z) h
 | fn k=>cases ht
inductive ClNm (X:Cx) (t:Str) (cv:Value):Prop
 | blt (T:String):cv= .type T→L2.Gl X t→X.mg t=none→bootBuiltins t=some (.type T)→t≠"__name__"→(t==("__debug__":Str))=false→ClNm X t cv
 | own (C:Addr):cv= .ref C→L2.Gl X t→X.mg t=some (.ref C)→(t==("__debug__":Str))=false→ClNm X t cv
theorem ClNm.ev {t:Str} {cv:Value} {Ex:Value→Shared→Prop} {Q:Value→Shared→Prop} (c:ClNm X t cv) (I:Inv X pins σ H s) (h:Q cv s):wpAny (model X.prog X.w) X.A (eval (.Name t tp) X.env) Q Ex s:=by
 cases c with
 | blt T e g m b n d=>subst e;exact bN I g m b h n d
 | own C e g m d=>subst e;exact bX I g m h d
theorem lU {t:Str} {cv:Value} {P:D→Option Bool} (hx: ∀ c,ExcCls X.K (ad.cls c)) (hg:L2.Gl X "isinstance") (hm:X.mg "isinstance"=none) (c:ClNm X t cv) (k:IsOk X ad cv P) (ha:ME X ad a f)
  (he:starEach [a, .Name t tp] X.env=(false,eval a X.env)::starEach [.Name t tp] X.env):ME X ad (.Call (.Name "isinstance" p) [a, .Name t tp] [] pos) (rIs P f):=by
 intro pins s σ H Q I ⟨G,ρ,E,hG,hS,hx',hr⟩
 refine wpAny_Call_Name_kw (bN (u:= .builtin "isinstance") I hg hm (by decide+kernel) ?_ (by decide) (by decide))
 refine PyProof.Rows.callWith_builtin1 ?_ he rfl
 rw [he]
 refine Calls.spliced_cons (L2.thn (ha.thn I hG hS hx' hr) fun u s1 hz_=> ?_)
 obtain⟨v,d,G1,H1,I1,r1,st,q,k1⟩:=hz_
 refine Calls.spliced_cons (c.ev I1 (Calls.spliced_nil ?_))
 have k1':RK X.K ad G1 H1 (match P d with | some b=> .ok (.bl b) | none=> .bad) Q E:=k1
 cases e:P d with
 | none=>rw [e] at k1';exact k1'.elim
 | some b=>
  rw [e] at k1'
  obtain⟨ty,e1,e2⟩:=k d b e
  exact sK hx I1 st.gh q r1 e1 e2 fun tk=>⟨.bl b,H1,I1.tok tk,rfl,k1'.ok_now st.gh aG⟩
end
noncomputable def pyName:Py→Str
 | .len=>"len" | .range=>"range" | .enum=>"enumerate" | .zip=>"zip" | .isin=>"isinstance" | .int=>"int" | .bool=>"bool" | .str=>"str" | .tuple=>"tuple" | .list=>"list"
 | .sum=>"sum" | .all=>"all" | .any=>"any" | .sorted=>"sorted" | .min=>"min" | .max=>"max" | .abs=>"abs" | .set=>"set"
noncomputable def GlOk (X:Cx) (ad:Ad) (x:Str):SK.Gl→Prop
 | .fn k n F=> ∃ r f,FnGood X ad r x n F f∧Room r X.A∧f=ad.fnA k
 | .exc c=>X.mg x=some (.ref (ad.cls c))∧c<ad.nb
 | .verr=>x="ValueError"∧X.mg x=none
 | .val d=> ∃ u v,X.mg x=some u∧RelV v u∧ ∀ G,Rep X.K ad G d v
 | .py p=>x=pyName p∧X.mg x=none
structure CtxOk (X:Cx) (ad:Ad) (C:SK.Ctx):Prop where
 N:X.N=C.N
 nd:X.N.Nodup
 vis: ∀ x i,loc C x=some i→X.N[i]? =some x∧Vis X.env.scope x∧(x==("__debug__":Str))=false∧(x==("__classdict__":Str))=false
 gk: ∀ x,C.sc.names.lookup x=some .globalImplicit→L2.Gl X x
 gt: ∀ x g,C.tab.lookup x=some g→(x==("__debug__":Str))=false∧GlOk X ad x g
 cap: ∀ x i,capLoc C x=some i→X.env.kindOf x=some .cell∨X.env.kindOf x=some .free
 calm:X.calm=true
 un:X.A.units+62<cLine
 hd:X.A.handled=none
 exc: ∀ c,ExcCls X.K (ad.cls c)
 kin: ∀ c e,c<ad.nb→kitOne X.K (.ref (ad.cls e)) (.ref (ad.cls c))=some (hit c e)
 kve: ∀ e,kitOne X.K (.ref (ad.cls e)) (.type "ValueError")=some true
 fnv: ∀ j n F,C.fns[j]? =some (n,F)→ ∃ r,FnAt X ad r n F (ad.fnA j)∧Room r X.A
section
variable {X:Cx} {ad:Ad} {C:SK.Ctx}
theorem sL {x:Str} {g:SK.Gl} (h:glo C x=some g):C.sc.names.lookup x=some .globalImplicit∧C.tab.lookup x=some g:=by
 unfold glo at h
 split at h
 ·rename_i e;exact⟨e,h⟩
 ·cases h
theorem CtxOk.gl (O:CtxOk X ad C) {x:Str} {g:SK.Gl} (h:glo C x=some g):L2.Gl X x∧(x==("__debug__":Str))=false∧GlOk X ad x g:=
 let ⟨a,b⟩:=sL h
 ⟨O.gk x a,(O.gt x g b).1,(O.gt x g b).2⟩
theorem iY {t:Str} {g:SK.Gl} {P:D→Option Bool} (O:CtxOk X ad C) (h:glo C t=some g) (e:isP g=some P): ∃ cv,ClNm X t cv∧IsOk X ad cv P:=by
 obtain⟨hg,hd,hk⟩:=O.gl h
 cases g with
 | fn _ _ _=>cases e
 | val _=>cases e
 | exc c=>
  cases e
  obtain⟨hm,hc⟩:=hk
  refine⟨.ref (ad.cls c), .own _ rfl hg hm hd,fun d b hb=> ?_⟩
  cases d<;>try (cases hb;done)
  rename_i k
  cases hb
  exact⟨_,rfl,O.kin c k hc⟩
 | verr=>
  cases e
  obtain⟨hx,hm⟩:=hk
  subst hx
  refine⟨.type "ValueError", .blt "ValueError" rfl hg hm (by decide+kernel) (by decide) hd,fun d b hb=> ?_⟩
  cases d<;>try (cases hb;done)
  rename_i k
  cases hb
  refine⟨_,rfl, ?_⟩
  rw [O.kve k]
  congr 1
  unfold hit
  simp
 | py p=>
  obtain⟨hx,hm⟩:=hk
  cases p<;>try (cases e;done)
  all_goals
   cases e
   subst hx
  ·refine⟨.type "int", .blt "int" rfl hg hm (by decide+kernel) (by decide) hd,fun d b hb=> ?_⟩
   cases d<;>first | (cases hb;done) | (cases hb;exact⟨_,rfl,by rfl⟩)
  ·refine⟨.type "bool", .blt "bool" rfl hg hm (by decide+kernel) (by decide) hd,fun d b hb=> ?_⟩
   cases d<;>first | (cases hb;done) | (cases hb;exact⟨_,rfl,by rfl⟩)
  ·refine⟨.type "str", .blt "str" rfl hg hm (by decide+kernel) (by decide) hd,fun d b hb=> ?_⟩
   cases d<;>first | (cases hb;done) | (cases hb;exact⟨_,rfl,by rfl⟩)
  ·refine⟨.type "tuple", .blt "tuple" rfl hg hm (by decide+kernel) (by decide) hd,fun d b hb=> ?_⟩
   cases d<;>first | (cases hb;done) | (cases hb;exact⟨_,rfl,by rfl⟩)
  ·refine⟨.type "list", .blt "list" rfl hg hm (by decide+kernel) (by decide) hd,fun d b hb=> ?_⟩
   cases d<;>first | (cases hb;done) | (cases hb;exact⟨_,rfl,by rfl⟩)
theorem aL {x:Str} {k:NameKind} {l:List (Str×NameKind)} (h:(l.lookup x==some k)=true):l.lookup x=some k:=by simpa using h
theorem cI {sc:Scope} {xs:List Str} (h:compOk sc xs=true):sc.kind= .function∧(cels sc=[]∨(cels sc=xs∧xs.length=1))∧(∀ x∈xs,sc.names.lookup x=some (if(cels sc).isEmpty then .local else .cell))∧(∀ y∈sc.names,y.2= .local→sc.names.lookup y.1=some .local)∧
  (xs++frees sc).Nodup∧(∀ x∈xs++frees sc,(x==("__debug__":Str))=false∧(x==("__classdict__":Str))=false)∧ ∀ x∈frees sc,sc.names.lookup x=some .free:=by
 unfold compOk at h
 simp only [Bool.and_eq_true] at h
 obtain⟨⟨⟨⟨⟨⟨h1,h2⟩,h3⟩,h4⟩,h5⟩,h6⟩,h7⟩:=h
 refine⟨by simpa using h1,by simpa using h2,fun x hx=> ?_,fun y hy z=> ?_,of_decide_eq_true h5,fun x hx=> ?_,fun x hx=> ?_⟩
 ·exact aL (zAd h3 x hx)
 ·have:=zAd h4 y hy
  rw [z] at this
  simpa using this
 ·have:=zAd h6 x hx
  simpa using this
 ·exact aL (zAd h7 x hx)
theorem dP {x:Str} {N:List Str} {i:Nat} (h:idx x N=some i):x∈N:=List.mem_of_getElem? (bE h)
theorem dQ {x:Str} {i:Nat} (h:loc C x=some i):idx x C.N=some i∧(C.sc.names.lookup x=some .local∨C.sc.names.lookup x=some .cell∨C.sc.names.lookup x=some .free):=by
 unfold loc at h
 split at h
 ·rename_i e;exact⟨h, .inl e⟩
 ·rename_i e;exact⟨h, .inr (.inl e)⟩
 ·rename_i e;exact⟨h, .inr (.inr e)⟩
 ·cases h
theorem aX {x:Str} {i:Nat} (h:capLoc C x=some i):idx x C.N=some i∧(C.sc.names.lookup x=some .cell∨C.sc.names.lookup x=some .free):=by
 unfold capLoc at h
 split at h
 ·rename_i e;exact⟨h, .inl e⟩
 ·rename_i e;exact⟨h, .inr e⟩
 ·cases h
theorem eR {α β:Type} {f:α→Option β}: ∀ {l:List α} {r:List β},mapO f l=some r→ ∀ a∈l, ∃ b,f a=some b
 | [],_,_,a,ha=>by cases ha
 | x::l,r,h,a,ha=>by
  unfold mapO at h
  cases e:f x with
  | none=>rw [e] at h;cases h
  | some y=>
   rw [e] at h
   obtain⟨r',h1,_⟩:=zMd h
   rcases List.mem_cons.mp ha with rfl | ha
   ·exact⟨y,e⟩
   ·exact eR h1 a ha
theorem aY {x:Str} {k:NameKind} {l:List (Str×NameKind)} (h:l.lookup x=some k):(x,k)∈l:=PySem.mem_of_lookup h
theorem eS {x:Str} {sc:Scope} (h:(x,NameKind.free)∈sc.names):x∈frees sc:=by
 unfold frees
 exact List.mem_map.mpr ⟨(x, .free),List.mem_filter.mpr ⟨h,by simp⟩,rfl⟩
theorem lV {sc:Scope} {xs:List Str} {cs:List Nat} (O:CtxOk X ad C) (h:compOk sc xs=true) (hc:mapO (fun x=>capLoc C x) (frees sc)=some cs):CompSc X C sc xs cs:=by
 obtain⟨h1,h2,h3,h4,h5,h6,h7⟩:=cI h
 have hC:Cel sc:=by
  rcases h2 with z | ⟨z,l⟩
  ·exact .inl z
  ·obtain⟨x,rfl⟩:=List.length_eq_one_iff.mp l
   have:=h3 x (.head _)
   rw [z] at this
   exact .inr ⟨x,z,this⟩
 refine⟨h1,hC,h4,fun x hx=> ?_,fun x hx=>h7 x (eS hx),O.N,hc⟩
 obtain⟨i,e⟩:=eR hc x (eS hx)
 exact O.cap x i e
theorem sM {tg:Expr} {xs:List Str} {k:Nat} {x:Str} (hN:X.N.Nodup) (e:tgNames tg=some (xs,k)) (hx:xs=[x]) (h1:X.N[0]? =some x) (h2:X.env.scope.names.lookup x=some .cell) (h3:X.fn x=true):PG X tg (gTg X.K k):=by
 subst hx
 cases tg<;>try (cases e)
 ·exact bY hN h1 (.inr h2) (.inl h3)
 ·rename_i es j px
  unfold tgNames at e
  obtain⟨ys,e1,e2⟩:=zBd e
  by_cases hl:2≤ys.length
  ·rw [if_pos hl] at e2
   cases e2
   exact absurd hl (by simp)
  ·rw [if_neg hl] at e2
   cases e2
theorem wF {sc:Scope} {xs:List Str} {cs:List Nat} {s3:Shared} {H3:Hp} {fp:List Addr} {pins:List (Addr×Obj)} (O:CtxOk X ad C) (h:compOk sc xs=true) (hc:mapO (fun x=>capLoc C x) (frees sc)=some cs):
  CtxOk (cX X (xs++frees sc) sc s3 H3 fp pins) ad { C with sc:=sc,N:=xs++frees sc }:=by
 obtain⟨h1,h2,h3,h4,h5,h6,h7⟩:=cI h
 have rl: ∀ x,(relabel sc X.env).names.lookup x=(sc.names.lookup x).map (fun k=>if(k==NameKind.free&&X.env.scope.kind== .function&&X.env.kindOf x==some .cell) then NameKind.cell else k):=fun x=>aK
 have fr: ∀ x,sc.names.lookup x=some .free→(relabel sc X.env).names.lookup x=some .cell∨(relabel sc X.env).names.lookup x=some .free:=fun x e=>by
  rw [rl x,e]
  simp only [Option.map]
  split
  ·exact .inl rfl
  ·exact .inr rfl
 have nc: ∀ x,sc.names.lookup x=some .cell→(relabel sc X.env).names.lookup x=some .cell:=fun x e=>by rw [rl x,e];rfl
 refine⟨rfl,h5,fun x i e=> ?_,fun x e=> ?_,fun x g e=> ?_,fun x i e=> ?_,O.calm,O.un,O.hd,O.exc,O.kin,O.kve,fun j n F e=>let ⟨r,T,hr⟩:=O.fnv j n F e;⟨r,⟨T.kp,T.ok⟩,hr⟩⟩
 ·obtain⟨e1,e2⟩:=dQ e
  have hm:=dP e1
  refine⟨bE e1, ?_,(h6 x hm).1,(h6 x hm).2⟩
  rcases e2 with e2 | e2 | e2
  ·refine .inl ?_
   show(relabel sc X.env).names.lookup x=some .local
   rw [rl x]
   have:sc.names.lookup x=some .local:=e2
   rw [this]
   rfl
  ·exact .inr (.inl (nc x e2))
  ·rcases fr x e2 with z | z
   ·exact .inr (.inl z)
   ·exact .inr (.inr z)
 ·show(relabel sc X.env).names.lookup x=some .globalImplicit
  rw [rl x]
  have:sc.names.lookup x=some .globalImplicit:=e
  rw [this]
  rfl
 ·obtain⟨e1,e2⟩:=O.gt x g e
  refine⟨e1, ?_⟩
  cases g with
  | fn k n F=>
   obtain⟨r,f,T,hr,hf⟩:=e2
   exact⟨r,f,⟨T.mg,T.kp,T.ok⟩,hr,hf⟩
  | exc c=>exact e2
  | verr=>exact e2
  | val d=>exact e2
  | py p=>exact e2
 ·obtain⟨e1,e2⟩:=aX e
  rcases e2 with e2 | e2
  ·exact .inl (nc x e2)
  ·exact fr x e2
end
section
variable {prog:Program} {w:World} {A:Around} {Ex:Value→Shared→Prop} {s:Shared}
theorem jT {it t:Addr} {i:Nat} {items:Array Value} {x:Value} {Q:Value→Shared→Prop} (hit:s.heap.IsTupleIter it t i) (ht:s.heap.IsTuple t items) (hx:items[i]? =some x)
  (hQ: ∀ h',h'.IsTupleIter it t (i+1)→Heap.SameBut it s.heap h'→Q x { s with heap:=h' }):wpAny (model prog w) A (Builtin.SmallTypes.nextOf (.ref it)) Q Ex s:=by
 obtain⟨o,o1,o2,o3⟩:=id hit
 obtain⟨u,u1,_,nu,u2⟩:=ht
 unfold Builtin.SmallTypes.nextOf
 refine wpAny_bind (wpAny_callSpecial?_slot (name:=Str.ofString "__next__") hit.typeIs F.slot_tuple_iterator_next (wpAny_call_entry F.slot_tuple_iterator_next hit.typeIs F.entry_tuple_iterator_next ?_ (F.args_tuple_iterator_next_1 _)))
 show wpAny _ _ (field (.ref it) 0 >>= _) _ _ s
 refine wpAny_bind (wpAny_field o1 o3 (x:= .ref t) rfl ?_)
 show wpAny _ _ (if(Value.ref t==Value.none)=true then _ else _) _ _ s;rw [if_neg (show ¬ ((Value.ref t==Value.none)=true) from Bool.false_ne_true)]
 show wpAny _ _ (field (.ref it) 1 >>= _) _ _ s
 refine wpAny_bind (wpAny_field o1 o3 (x:= .int i 0) rfl ?_)
 show wpAny _ _ (seqItems? (.ref t) >>= _) _ _ s
 refine wpAny_bind (wpAny_seqItems u1 u2 ?_)
 simp only [Int.toNat_natCast,hx]
 refine wpAny_bind (wpAny_setField o1 o3 (by simp) (wpAny_pure ⟨x,rfl,wpAny_pure (hQ _ ?_ (Heap.SameBut.update ..))⟩))
 exact⟨_,Heap.get?_update_self _ o1 (Obj.isFreed_of_fields (Obj.data_mapFields o3 _)),(Obj.cls_mapFields ..).trans o2,by rw [Obj.data_mapFields o3];simp [rawInt]⟩
theorem lW {it t:Addr} {i:Nat} {items:Array Value} {Q:Value→Shared→Prop} (hh:A.handled=none) (hit:s.heap.IsTupleIter it t i) (ht:s.heap.IsTuple t items) (hx:items[i]? =none)
  (hE: ∀ h' e,Heap.ExtBut it s.heap h'→(∃ o,h'.get? e=some o∧o.cls= .type "StopIteration")→Ex (.ref e) { s with heap:=h' }):wpAny (model prog w) A (Builtin.SmallTypes.nextOf (.ref it)) Q Ex s:=by
 obtain⟨o,o1,o2,o3⟩:=id hit
 obtain⟨u,u1,_,nu,u2⟩:=ht
 unfold Builtin.SmallTypes.nextOf
 refine wpAny_bind (wpAny_callSpecial?_slot (name:=Str.ofString "__next__") hit.typeIs F.slot_tuple_iterator_next (wpAny_call_entry F.slot_tuple_iterator_next hit.typeIs F.entry_tuple_iterator_next ?_ (F.args_tuple_iterator_next_1 _)))
 show wpAny _ _ (field (.ref it) 0 >>= _) _ _ s
 refine wpAny_bind (wpAny_field o1 o3 (x:= .ref t) rfl ?_)
 show wpAny _ _ (if(Value.ref t==Value.none)=true then _ else _) _ _ s;rw [if_neg (show ¬ ((Value.ref t==Value.none)=true) from Bool.false_ne_true)]
 show wpAny _ _ (field (.ref it) 1 >>= _) _ _ s
 refine wpAny_bind (wpAny_field o1 o3 (x:= .int i 0) rfl ?_)
 show wpAny _ _ (seqItems? (.ref t) >>= _) _ _ s
 refine wpAny_bind (wpAny_seqItems u1 u2 ?_)
 simp only [Int.toNat_natCast,hx]
 refine wpAny_bind (wpAny_rule (wpAny_bind (wpAny_setField o1 o3 (by simp) ?_)))
 show wpAny _ _ (newExc (.type "StopIteration") [] >>= _) _ _ _
 refine wpAny_bind ?_;simp only [newExc,newTuple]
 refine wpAny_bind (wpAny_newObj_type ?_ (by size_fits));refine wpAny_bind (m:=firstArgMember _ _) (wpAny_of_eq (a:=Value.none) (by first | rfl | (simp only [firstArgMember];rfl)) ?_)
 refine wpAny_newObj_type ?_ (by size_fits);simp only [raiseNew]
 refine wpAny_bind (wpAny_handled ?_)
 first | rw [show A.in1.handled=none from hh] | rw [hh]
 refine wpAny_bind (wpAny_pure (wpAny_throw ?_))
 refine hE _ _ (fun b ob ne e=> ?_) ⟨_,Heap.get?_push_size _ rfl,rfl⟩
 exact Heap.get?_push_of_some _ (Heap.get?_push_of_some _ ((Heap.get?_update_other _ _ (Ne.symm ne)).trans e))
end
section
variable {prog:Program} {w:World} {A:Around} {Ex:Value→Shared→Prop} {s:Shared}
end
theorem dR {X:Cx} {pins:List (Addr×Obj)} {σ:L2.St} {H:Hp} {s:Shared} {h':Heap} {t':Nat} {fp:List Addr} (I:Inv X pins σ H s) (k: ∀ b o,b∉fp→s.heap.get? b=some o→h'.get? b=some o) (hf: ∀ b∈fp,FpOk X pins H b):Inv X pins σ H { s with heap:=h',toks:=t' }:=by
 have nit: ∀ b u,H b=some u→b∉fp:=fun b u e z=>by rw [(hf b z).1] at e;cases e
 refine I.step (g':=s.gens) (d':=s.drawn) (ch:=fp) (fun b hb=> ?_) (fun b o _ _ hc e _=>k b o hc e) (fun b o _ _ hc e _=>⟨o.slots,k b o hc e⟩) (fun _ _ _ _ n=>n)
  (fun b o hc e=>⟨o,k b o hc e⟩) (fun _ _ e=>e) (fun _ _ _ e=>e) (fun b ps e=>⟨#[],by rw [e];simp⟩) (fun m hm=> ?_) (fun b u e=> ?_) I.bare
 ·obtain⟨_,f1,_,f3,f4,f5⟩:=hf b hb
  exact⟨f3,f1,f4,f5⟩
 ·obtain⟨o,es,ep,ho,r⟩:=hm
  exact⟨o,es,ep,k _ o (fun z=>(hf _ z).2.1 rfl) ho,r⟩
 ·refine(I.hok b u e).stay (fun c v hc q=>k c v ?_ q) (fun _ q=>q) fun _ _ q=>q
  rcases hc with z | z
  ·rw [z];exact nit b u e
  ·exact nit c _ z
section
variable {prog:Program} {w:World} {A:Around} {Ex:Value→Shared→Prop} {s:Shared}
theorem jU {It:Heap→Nat→Prop} {e it:Addr} {i:Nat} {x old:Value} {Q:Option Value→Shared→Prop} (he:IsEnum s.heap e it i old) (hne:e≠it)
  (hn: ∀ (A':Around) (E':Value→Shared→Prop) (Q':Value→Shared→Prop),(∀ h',It h' (i+1)→Heap.SameBut it s.heap h'→Q' x { s with heap:=h' })→wpAny (model prog w) A' (Builtin.SmallTypes.nextOf (.ref it)) Q' E' s)
  (hk: ∀ h h',It h (i+1)→(∀ o,h.get? it=some o→h'.get? it=some o)→It h' (i+1))
  (hQ: ∀ h',IsEnumOut h' e it ((i:Int)+1) x s.heap.objs.size→It h' (i+1)→h'.get? s.heap.objs.size=some { cls:= .type "tuple",data:= .seq #[.int i s.toks,x] }→h'.objs.size=s.heap.objs.size+1→
   (∀ b o,b≠e→b≠it→s.heap.get? b=some o→h'.get? b=some o)→Q (some (.ref s.heap.objs.size)) { s with heap:=h',toks:=s.toks+1 }):wpAny (model prog w) A (pyNext (.ref e)) Q Ex s:=by
 have hT:s.TypeIs (.ref e) "enumerate":=⟨_,he,rfl⟩
 unfold pyNext
 refine wpAny_bind (wpAny_attempt (wpAny_callSpecial?_slot (name:=Str.ofString "__next__") hT F.slot_enumerate_next (wpAny_call_entry F.slot_enumerate_next hT F.entry_enumerate_next ?_ (F.args_enumerate_next_1 _))))
 obtain⟨hp,g,d,tk,os⟩:=s
 show wpAny _ _ (field (.ref e) 2 >>= _) _ _ _
 refine wpAny_bind (wpAny_field he rfl (x:= .ref it) rfl (wpAny_bind (hn _ _ _ fun g1 t1 s1=> ?_)))
 replace s1:Heap.SameBut it hp g1:=s1
 have e1:IsEnum g1 e it i old:=(s1.2 e hne).trans he
 show wpAny _ _ (field (.ref e) 3 >>= _) _ _ ⟨g1,g,d,tk,os⟩
 refine wpAny_bind (wpAny_field e1 rfl (x:=rawInt i) rfl ?_);show wpAny _ _ (field (.ref e) 4 >>= _) _ _ ⟨g1,g,d,tk,os⟩
 refine wpAny_bind (wpAny_field e1 rfl (x:= .none) rfl ?_);show wpAny _ _ (mkInt i >>= _) _ _ ⟨g1,g,d,tk,os⟩
 refine wpAny_bind (wpAny_mkInt ?_);show wpAny _ _ (setField (.ref e) 3 (rawInt ((i:Int)+1)) >>= _) _ _ ⟨g1,g,d,tk+1,os⟩
 refine wpAny_bind (wpAny_setField_rec e1 (by simp) fun g2 e2 s2=> ?_)
 replace s2:Heap.SameBut e g1 g2:=s2
 replace e2:IsEnum g2 e it ((i:Int)+1) old:=e2
 show wpAny _ _ (setField (.ref e) 4 .none >>= _) _ _ ⟨g2,g,d,tk+1,os⟩
 refine wpAny_bind (wpAny_setField_rec e2 (by simp) fun g3 e3 s3=> ?_)
 replace s3:Heap.SameBut e g2 g3:=s3
 replace e3:IsEnum g3 e it ((i:Int)+1) old:=e3
 show wpAny _ _ (newTuple [.int i tk,x] >>= _) _ _ ⟨g3,g,d,tk+1,os⟩
 refine wpAny_bind (wpAny_newTuple ?_)
 have e4:IsEnum (g3.push { cls:= .type "tuple",data:= .seq #[.int i tk,x] }) e it ((i:Int)+1) old:=Heap.get?_push_of_some _ e3
 generalize hg4:g3.push { cls:= .type "tuple",data:= .seq #[.int i tk,x] }=g4 at e4
 have hsz:g3.objs.size=hp.objs.size:=by rw [s3.1,s2.1,s1.1]
 have le:e<hp.objs.size:=Heap.lt_size he
 have t4:g4.get? hp.objs.size=some { cls:= .type "tuple",data:= .seq #[.int i tk,x] }:=by rw [←hg4, ←hsz];exact Heap.get?_push_size _ rfl
 have z4:g4.objs.size=hp.objs.size+1:=by rw [←hg4,Heap.size_push,hsz]
 have k4: ∀ b o,b≠e→b≠it→hp.get? b=some o→g4.get? b=some o:=fun b o n1 n2 q=>by
  rw [←hg4];exact Heap.get?_push_of_some _ ((s3.2 b n1).trans ((s2.2 b n1).trans ((s1.2 b n2).trans q)))
 have i4:It g4 (i+1):=hk g1 g4 t1 fun o q=>by rw [←hg4];exact Heap.get?_push_of_some _ ((s3.2 it hne.symm).trans ((s2.2 it hne.symm).trans q))
 show wpAny _ _ (Builtin.SmallTypes.ownedTupleIsFree (.ref e) >>= _) _ _ ⟨g4,g,d,tk+1,os⟩
 rw [hsz]
 refine wpAny_bind ?_;unfold Builtin.SmallTypes.ownedTupleIsFree
 refine wpAny_bind (wpAny_field e4 rfl (x:= .none) rfl (wpAny_pure ?_));simp only [if_true]
 refine wpAny_bind (wpAny_rule (wpAny_bind (wpAny_field e4 rfl (x:=old) rfl (wpAny_bind (wpAny_setField_rec e4 (by simp) fun g5 e5 s5=> ?_)))))
 replace s5:Heap.SameBut e g4 g5:=s5
 replace e5:IsEnum g5 e it ((i:Int)+1) x:=e5
 show wpAny _ _ (Builtin.SmallTypes.ownedTupleHandOut (.ref e) (.ref hp.objs.size) >>= _) _ _ ⟨g5,g,d,tk+1,os⟩
 refine wpAny_bind ?_;unfold Builtin.SmallTypes.ownedTupleHandOut
 refine wpAny_bind (wpAny_setField_rec e5 (by simp) fun g6 e6 s6=> ?_)
 replace s6:Heap.SameBut e g5 g6:=s6
 replace e6:IsEnumOut g6 e it ((i:Int)+1) x hp.objs.size:=e6
 refine wpAny_setField_rec e6 (by simp) fun g7 e7 s7=> ?_
 replace s7:Heap.SameBut e g6 g7:=s7
 replace e7:IsEnumOut g7 e it ((i:Int)+1) x hp.objs.size:=e7
 have up: ∀ b o,b≠e→g4.get? b=some o→g7.get? b=some o:=fun b o n q=>(s7.2 b n).trans ((s6.2 b n).trans ((s5.2 b n).trans q))
 refine wpAny_bind (wpAny_letGo (wpAny_pure ⟨_,rfl,wpAny_pure (hQ g7 e7 (hk g4 g7 i4 fun o q=>up it o hne.symm q) (up _ _ (Nat.ne_of_gt le) t4) ?_ fun b o n1 n2 q=>up b o n1 (k4 b o n1 n2 q))⟩))
 rw [s7.1,s6.1,s5.1,z4]
theorem lX {e it:Addr} {i:Nat} {old:Value} {Q:Option Value→Shared→Prop} (he:IsEnum s.heap e it i old)
  (hn: ∀ (A':Around) (E':Value→Shared→Prop) (Q':Value→Shared→Prop),A'.handled=A.handled→(∀ h' x,Heap.ExtBut it s.heap h'→(∃ o,h'.get? x=some o∧o.cls= .type "StopIteration")→E' (.ref x) { s with heap:=h' })→wpAny (model prog w) A' (Builtin.SmallTypes.nextOf (.ref it)) Q' E' s)
  (hQ: ∀ h',Heap.ExtBut it s.heap h'→Q none { s with heap:=h' }):wpAny (model prog w) A (pyNext (.ref e)) Q Ex s:=by
 have hT:s.TypeIs (.ref e) "enumerate":=⟨_,he,rfl⟩
 unfold pyNext
 refine wpAny_bind (wpAny_attempt (wpAny_callSpecial?_slot (name:=Str.ofString "__next__") hT F.slot_enumerate_next (wpAny_call_entry F.slot_enumerate_next hT F.entry_enumerate_next ?_ (F.args_enumerate_next_1 _))))
 show wpAny _ _ (field (.ref e) 2 >>= _) _ _ _
 refine wpAny_bind (wpAny_field he rfl (x:= .ref it) rfl (wpAny_bind (hn _ _ _ rfl fun h' x k q=> ?_)))
 obtain⟨o,ho,hc⟩:=q
 exact wpAny_bind (wpAny_isInstance (T:="StopIteration") (b:=true) ⟨o,ho,hc⟩ isSubtype_stop (wpAny_pure (hQ _ k)))
end
noncomputable abbrev eh (h:Heap) (T:String) (l:Addr):Heap:=(h.push { cls:= .type T,data:= .fields #[.ref l, .int 0 0] }).push { cls:= .type "enumerate",data:= .fields #[.none, .bool false, .ref h.objs.size,rawInt 0, .none, .none] }
open AutoSeq1 (wpAny_loadPart') in
theorem lY (l:Addr) (xs:Array Value) (n:Nat) (dd:Option Addr) (sl:Array (Option Value)):Meets (Builtin.«enumerate.__new__» ⟨[.type "enumerate", .ref l],[]⟩) (fun _ R s=>s.heap.get? l=some { cls:= .type "tuple",dict:=dd,data:= .seq xs n,slots:=sl }∧
  R (.ok (.ret (.ref (s.heap.objs.size+1)))) { s with heap:=eh s.heap "tuple_iterator" l }):=
 .of_wp fun prog w A R s h=>by
  obtain⟨hp,g,d,tk,os⟩:=s
  obtain⟨hl,h⟩:=h
  have hsub:=sub_enumerate
  have q1:Heap.IsTuple (Shared.heap ⟨hp,g,d,tk,os⟩) l xs:=⟨_,hl,rfl,n,rfl⟩
  rw [←show(hp.push { cls:= .type "tuple_iterator",data:= .fields #[.ref l, .int 0 0] }).objs.size=hp.objs.size+1 from Heap.size_push ..] at h
  wp_walk using wpAny_loadPart' hl
  refine wpAny_stack_any fun st=>wpAny_pure ?_
  split
  ·rename_i c _ _ _ _ _
   cases (c==Value.type "enumerate")
   ·wp_walk using wpAny_loadPart' hl,wpAny_pyIter_tuple q1
    exact⟨_,rfl,h⟩
   ·wp_walk using wpAny_loadPart' hl,wpAny_pyIter_tuple q1
    exact⟨_,rfl,h⟩
  ·wp_walk using wpAny_loadPart' hl,wpAny_pyIter_tuple q1
   exact⟨_,rfl,h⟩
open AutoSeq1 (wpAny_loadPart') in
theorem lZ (l:Addr) (xs:Array Value) (n:Nat) (dd:Option Addr) (sl:Array (Option Value)):Meets (Builtin.«enumerate.__new__» ⟨[.type "enumerate", .ref l],[]⟩) (fun _ R s=>s.heap.get? l=some { cls:= .type "list",dict:=dd,data:= .seq xs n,slots:=sl }∧
  R (.ok (.ret (.ref (s.heap.objs.size+1)))) { s with heap:=eh s.heap "list_iterator" l }):=
 .of_wp fun prog w A R s h=>by
  obtain⟨hp,g,d,tk,os⟩:=s
  obtain⟨hl,h⟩:=h
  have hsub:=sub_enumerate
  have q1:Heap.IsList (Shared.heap ⟨hp,g,d,tk,os⟩) l xs:=⟨_,hl,rfl,n,rfl⟩
  rw [←show(hp.push { cls:= .type "list_iterator",data:= .fields #[.ref l, .int 0 0] }).objs.size=hp.objs.size+1 from Heap.size_push ..] at h
  wp_walk using wpAny_loadPart' hl
  refine wpAny_stack_any fun st=>wpAny_pure ?_
  split
  ·rename_i c _ _ _ _ _
   cases (c==Value.type "enumerate")
   ·wp_walk using wpAny_loadPart' hl,wpAny_pyIter_list q1
    exact⟨_,rfl,h⟩
   ·wp_walk using wpAny_loadPart' hl,wpAny_pyIter_list q1
    exact⟨_,rfl,h⟩
  ·wp_walk using wpAny_loadPart' hl,wpAny_pyIter_list q1
   exact⟨_,rfl,h⟩
section
variable {prog:Program} {w:World} {A:Around} {Ex:Value→Shared→Prop} {s:Shared}
theorem jV {l:Addr} {xs:Array Value} {Q:Value→Shared→Prop} (hl:s.heap.IsTuple l xs)
  (h: ∀ h',IsEnum h' (s.heap.objs.size+1) s.heap.objs.size 0 .none→h'.IsTupleIter s.heap.objs.size l 0→h'.objs.size=s.heap.objs.size+2→(∀ b o,s.heap.get? b=some o→h'.get? b=some o)→Q (.ref (s.heap.objs.size+1)) { s with heap:=h' }):
  wpAny (model prog w) A (call (.type "enumerate") [.ref l]) Q Ex s:=by
 obtain⟨⟨c,dd,da,sl⟩,e1,e2,n,e3⟩:=hl
 simp only at e2 e3;subst e2 e3
 refine callType_new F.called_enumerate (by decide) (F.typeCall_enumerate_1 _) (F.newCall_enumerate_1 _) (fun obj=>F.args_object_init_2 obj _) F.entry_enumerate_new (lY l xs n dd sl) ⟨e1, ?_⟩
 have hz:(s.heap.push { cls:= .type "tuple_iterator",data:= .fields #[.ref l, .int 0 0] }).objs.size=s.heap.objs.size+1:=Heap.size_push ..
 have he:IsEnum (eh s.heap "tuple_iterator" l) (s.heap.objs.size+1) s.heap.objs.size 0 .none:=by rw [←hz];exact Heap.get?_push_size _ rfl
 exact⟨⟨_,he,rfl⟩,h _ he ⟨_,Heap.get?_push_of_some _ (Heap.get?_push_size _ rfl),rfl,rfl⟩ (by rw [Heap.size_push,hz]) fun b o x=>Heap.get?_push_of_some _ (Heap.get?_push_of_some _ x)⟩
theorem jW {l:Addr} {xs:Array Value} {Q:Value→Shared→Prop} (hl:s.heap.IsList l xs)
  (h: ∀ h',IsEnum h' (s.heap.objs.size+1) s.heap.objs.size 0 .none→h'.IsListIter s.heap.objs.size l 0→h'.objs.size=s.heap.objs.size+2→(∀ b o,s.heap.get? b=some o→h'.get? b=some o)→Q (.ref (s.heap.objs.size+1)) { s with heap:=h' }):
  wpAny (model prog w) A (call (.type "enumerate") [.ref l]) Q Ex s:=by
 obtain⟨⟨c,dd,da,sl⟩,e1,e2,n,e3⟩:=hl
 simp only at e2 e3;subst e2 e3
 refine callType_new F.called_enumerate (by decide) (F.typeCall_enumerate_1 _) (F.newCall_enumerate_1 _) (fun obj=>F.args_object_init_2 obj _) F.entry_enumerate_new (lZ l xs n dd sl) ⟨e1, ?_⟩
 have hz:(s.heap.push { cls:= .type "list_iterator",data:= .fields #[.ref l, .int 0 0] }).objs.size=s.heap.objs.size+1:=Heap.size_push ..
 have he:IsEnum (eh s.heap "list_iterator" l) (s.heap.objs.size+1) s.heap.objs.size 0 .none:=by rw [←hz];exact Heap.get?_push_size _ rfl
 exact⟨⟨_,he,rfl⟩,h _ he ⟨_,Heap.get?_push_of_some _ (Heap.get?_push_size _ rfl),rfl,rfl⟩ (by rw [Heap.size_push,hz]) fun b o x=>Heap.get?_push_of_some _ (Heap.get?_push_of_some _ x)⟩
end
def SqA (t:Bool) (K:PySem.W.Frag) (H:Hp) (a:Addr) (xs:List V):Prop:=match t with
 | true=>SqT K H a xs
 | false=>SqL K H a xs
def ItA (t:Bool) (h:Heap) (it l:Addr) (i:Nat):Prop:=match t with
 | true=>h.IsTupleIter it l i
 | false=>h.IsListIter it l i
def SeA (t:Bool) (h:Heap) (l:Addr) (xs:Array Value):Prop:=match t with
 | true=>h.IsTuple l xs
 | false=>h.IsList l xs
section
variable {X:Cx} {pins:List (Addr×Obj)} {σ:L2.St} {H:Hp} {s:Shared} {t:Bool}
theorem hF {a:Addr} {xs:List V} (I:Inv X pins σ H s) (h:SqA t X.K H a xs): ∃ its:List Value,Vals xs its∧SeA t s.heap a its.toArray∧xs.length≤sizeLine:=by
 cases t with
 | true=>
  obtain⟨its,r,p,z⟩:=I.tuple h
  exact⟨its,r,p,z⟩
 | false=>
  obtain⟨its,r,p,z⟩:=I.list h
  exact⟨its,r,p.isList,z⟩
theorem hJ {a:Addr} {xs ys:List V} (I:Inv X pins σ H s) (h:SqA t X.K H a xs) (h':SqA t X.K H a ys):xs=ys:=by
 cases t with
 | true=>exact I.tuple_inj h h'
 | false=>exact I.list_inj h h'
theorem aR {K:PySem.W.Frag} {H H':Hp} {a:Addr} {xs:List V} (e:Same H H') (h:SqA t K H a xs):SqA t K H' a xs:=by
 cases t with
 | true=>exact e.seqT h
 | false=>exact e.seq h
theorem eT {h h':Heap} {it l:Addr} {i:Nat} (q:ItA t h it l i) (k: ∀ o,h.get? it=some o→h'.get? it=some o):ItA t h' it l i:=by
 cases t with
 | true=>obtain⟨o,e,r⟩:=q;exact⟨o,k o e,r⟩
 | false=>obtain⟨o,e,r⟩:=q;exact⟨o,k o e,r⟩
theorem l4 {h:Heap} {it l:Addr} {i:Nat} (q:ItA t h it l i): ∃ o,h.get? it=some o∧ ∀ v,o.data≠ .cell v:=by
 cases t with
 | true=>obtain⟨o,e,_,d⟩:=q;exact⟨o,e,fun v z=>by rw [d] at z;cases z⟩
 | false=>obtain⟨o,e,_,d⟩:=q;exact⟨o,e,fun v z=>by rw [d] at z;cases z⟩
theorem jX {prog:Program} {w:World} {A:Around} {Ex:Value→Shared→Prop} {it l:Addr} {i:Nat} {xs:Array Value} {x:Value} {Q:Value→Shared→Prop} (q:ItA t s.heap it l i) (hl:SeA t s.heap l xs) (hx:xs[i]? =some x)
  (hQ: ∀ h',ItA t h' it l (i+1)→Heap.SameBut it s.heap h'→Q x { s with heap:=h' }):wpAny (model prog w) A (Builtin.SmallTypes.nextOf (.ref it)) Q Ex s:=by
 cases t with
 | true=>exact jT q hl hx hQ
 | false=>exact wpAny_nextOf_list_item q hl hx hQ
theorem l6 {prog:Program} {w:World} {A:Around} {Ex:Value→Shared→Prop} {it l:Addr} {i:Nat} {xs:Array Value} {Q:Value→Shared→Prop} (hh:A.handled=none) (q:ItA t s.heap it l i) (hl:SeA t s.heap l xs) (hx:xs[i]? =none)
  (hE: ∀ h' e,Heap.ExtBut it s.heap h'→(∃ o,h'.get? e=some o∧o.cls= .type "StopIteration")→Ex (.ref e) { s with heap:=h' }):wpAny (model prog w) A (Builtin.SmallTypes.nextOf (.ref it)) Q Ex s:=by
 cases t with
 | true=>exact lW hh q hl hx hE
 | false=>exact wpAny_nextOf_list_end hh q hl hx hE
end
noncomputable def Ite (t:Bool) (K:PySem.W.Frag) (l:Addr):It:=
 ⟨fun i H=> ∃ xs x,SqA t K H l xs∧xs[i]? =some x,
  fun i H v H'=> ∃ p x,H p=none∧v= .ref p∧(∀ xs,SqA t K H l xs→xs[i]? =some x)∧H'=upd H p (.tup [.int i,x]),
  fun i H=> ∃ xs,SqA t K H l xs∧xs.length≤i⟩
theorem l7 {P:Program} {w:World} {K:PySem.W.Frag} {es:List Expr} {x1} {tp:Pos} {t:Bool} {e it l:Addr} (hne:e≠it):
  Turn P w K (.Tuple es x1 tp) (Ite t K l) [e,it] e (fun i h=>(∃ old,IsEnum h e it i old)∧ItA t h it l i) where
 mem:=by simp
 obj:=fun i h st b hb=>by
  obtain⟨⟨old,z1⟩,z2⟩:=st
  simp only [List.mem_cons,List.not_mem_nil,or_false] at hb
  rcases hb with rfl | rfl
  ·exact⟨_,z1,fun v e=>by cases e⟩
  ·exact l4 z2
 keep:=fun i h h' st k=>by
  obtain⟨⟨old,z1⟩,z2⟩:=st
  exact⟨⟨old,k _ (by simp) _ z1⟩,eT z2 fun o q=>k _ (by simp) o q⟩
 item:=by
  intro X hP hw hK hc i pins s σ H E I hf st hg
  subst hP hw hK
  obtain⟨xs,x,q1,hx⟩:=hg
  obtain⟨us,r1,p1,_⟩:=hF I q1
  obtain⟨u,hu,ru⟩:=r1.get hx
  obtain⟨⟨old,z1⟩,z2⟩:=st
  have te:e<s.heap.objs.size:=Heap.lt_size z1
  have ti:it<s.heap.objs.size:=by obtain⟨o,q,_⟩:=l4 z2;exact Heap.lt_size q
  refine jU (It:=fun h j=>ItA t h it l j) (x:=u) z1 hne (fun A' E' Q' hq=>jX z2 p1 (by simpa using hu) hq) (fun h h' a k=>eT a k) fun h' a1 a2 a3 a4 a5=>⟨_,rfl, ?_⟩
  have hfr:H s.heap.objs.size=none:=I.hok.fresh (Nat.le_refl _)
  have Ia:Inv X pins σ (upd H s.heap.objs.size (.tup [.int i,x])) { s with heap:=s.heap.push { cls:= .type "tuple",data:= .seq #[.int i s.toks,u] },toks:=s.toks+1 }:=
   I.laid (t':=s.toks+1) (fun b o e=>Heap.get?_push_of_some _ e) (Nat.le_refl _) (show ObjOk X.prog X.w _ _ _ (.tup [.int i,x]) from⟨by rw [sizeLine_eq];simp,[.int i s.toks,u], .cons ⟨_,rfl⟩ (.cons ru .nil),⟨_,Heap.get?_push_size _ rfl,rfl,_,rfl⟩,⟨_,Heap.get?_push_size _ rfl,rfl⟩⟩)
  have hnew: ∀ b∈[e,it],b≠s.heap.objs.size:=fun b hb=>by
   simp only [List.mem_cons,List.not_mem_nil,or_false] at hb
   rcases hb with rfl | rfl
   ·exact Nat.ne_of_lt te
   ·exact Nat.ne_of_lt ti
  have hf2: ∀ b∈[e,it],FpOk X pins (upd H s.heap.objs.size (.tup [.int i,x])) b:=fun b hb=>⟨by rw [aA (hnew b hb)];exact(hf b hb).1,(hf b hb).2⟩
  have Ib:Inv X pins σ (upd H s.heap.objs.size (.tup [.int i,x])) { s with heap:=h',toks:=s.toks+1 }:=by
   refine dR (s:={ s with heap:=s.heap.push { cls:= .type "tuple",data:= .seq #[.int i s.toks,u] },toks:=s.toks+1 }) (t':=s.toks+1) Ia (fun b o hb q=> ?_) hf2
   simp only [List.mem_cons,List.not_mem_nil,or_false,not_or] at hb
   by_cases hq:b=s.heap.objs.size
   ·subst hq
    rw [show(s.heap.push { cls:= .type "tuple",data:= .seq #[.int i s.toks,u] }).get? s.heap.objs.size=some _ from Heap.get?_push_size _ rfl] at q
    cases q
    exact a3
   ·exact a5 b o hb.1 hb.2 ((Heap.get?_push_ne _ b _ hq).symm.trans q)
  refine wpAny_letOwnedTupleGo_enum a1 fun h2 b1 b2=> ?_
  have Ic:Inv X pins σ (upd H s.heap.objs.size (.tup [.int i,x])) { s with heap:=h2,toks:=s.toks+1 }:=dR (s:={ s with heap:=h',toks:=s.toks+1 }) (t':=s.toks+1) Ib (fun b o hb q=>(b2.2 b (fun z=>hb (by simp [z]))).trans q) hf2
  refine⟨.ref s.heap.objs.size,_,Ic,rfl,⟨_,x,hfr,rfl,fun xs' hx'=>by rw [hJ I hx' q1];exact hx,rfl⟩,⟨⟨u, ?_⟩,eT a2 fun o q=>(b2.2 it hne.symm).trans q⟩,fun b hb=>(hf2 b hb).1⟩
  rw [Int.natCast_add];exact b1
 done:=by
  intro X hP hw hK hc i pins s σ H E I hf st hg
  subst hP hw hK
  obtain⟨xs,q1,hx⟩:=hg
  obtain⟨us,r1,p1,_⟩:=hF I q1
  obtain⟨⟨old,z1⟩,z2⟩:=st
  have n1:=r1.length
  refine lX z1 (fun A' E' Q' ha hq=>l6 (ha.trans (I.ok.hd hc)) z2 p1 (by simp;omega) hq) fun h' k=>⟨rfl,dR (t':=s.toks) I (fun b o hb q=> ?_) hf⟩
  simp only [List.mem_cons,List.not_mem_nil,or_false,not_or] at hb
  exact k b o hb.2 q
 self:=fun _ _ _ _ _ st h=>by
  obtain⟨⟨old,z1⟩,_⟩:=st
  exact wpAny_pyIter_enum z1 h
theorem jY {prog:Program} {w:World} {A:Around} {Ex:Value→Shared→Prop} {s:Shared} {t:Bool} {l:Addr} {xs:Array Value} {Q:Value→Shared→Prop} (hl:SeA t s.heap l xs)
  (h: ∀ h',IsEnum h' (s.heap.objs.size+1) s.heap.objs.size 0 .none→ItA t h' s.heap.objs.size l 0→h'.objs.size=s.heap.objs.size+2→(∀ b o,s.heap.get? b=some o→h'.get? b=some o)→Q (.ref (s.heap.objs.size+1)) { s with heap:=h' }):
  wpAny (model prog w) A (call (.type "enumerate") [.ref l]) Q Ex s:=by
 cases t with
 | true=>exact jV hl h
 | false=>exact jW hl h
section
variable {prog:Program} {w:World} {A:Around} {Ex:Value→Shared→Prop} {s:Shared} {t t2:Bool}
end
section
variable {prog:Program} {w:World} {A:Around} {Ex:Value→Shared→Prop} {s:Shared} {t t2:Bool}
end
section
variable {X:Cx} {ad:Ad} {pins:List (Addr×Obj)} {s:Shared} {σ:St} {H G:Hp} {ρ:Rho} {Q:VK} {E:Nat→Hp→Prop} {pos p ap cp:Pos} {o a b c tg:Expr} {f g h:F}
theorem sN {G1 H1:Hp} {x:V} {ds:List D} (e:Same G1 H1) (q:Seq X ad G1 H1 (.lst ds) x): ∃ l xs,x= .ref l∧SqL X.K H1 l xs∧Reps X.K ad G1 ds xs:=by
 rcases q with q | ⟨l,vs,ds',e1,e2,e3,e4,e5⟩
 ·unfold Rep at q
  obtain⟨l,vs,rfl,h1,h2⟩:=q
  exact⟨l,vs,rfl,e.seq h1,h2⟩
 ·cases e1
  exact⟨l,vs,e2,SqL.of e4,e5⟩
theorem l8 {m:Str} {id:String} {r:Fn} (slot:PySem.Slot "list" m id) (hty:typeOf (.builtin id)=pure (.type "method_descriptor"))
  (ho:ML X ad o f) (ha:ME X ad a g) (hs:starEach [a] X.env=(false,eval a X.env)::starEach [] X.env) (hbase:attributeBase o m X.env (eval o X.env)=eval o X.env) (hline:(ap.endLine==cp.line)=true)
  (hm: ∀ (pins:List (Addr×Obj)) (s:Shared) (σ:St) (H G:Hp) (l:Addr) (xs:List V) (ds:List D) (y:D) (v:V) (u:Value) (Q:VK) (E:Nat→Hp→Prop),Inv X pins σ H s→Same G H→SqL X.K H l xs→Reps X.K ad G ds xs→Rep X.K ad G y v→RelV v u→
   RK X.K ad G H (r [.lst ds,y]) Q E→wpAny (model X.prog X.w) X.A (call (.builtin id) [.ref l,u]) (EP X pins σ Q) X.xe s):ME X ad (.Call (.Attribute o m ap) [a] [] cp) (rMeth r f g):=by
 intro pins s σ H Q I ⟨G,ρ,E,hG,hS,hx,hr⟩
 refine wpAny_Call_method_late hbase (bG hs) hline rfl (L2.thn (ho.lk pins s σ H G ρ _ Q E I hG hS hx hr) fun v s1 hz_=> ?_)
 obtain⟨x,d,G1,H1,I1,r1,st1,q1,k1⟩:=hz_
 cases d<;>try exact False.elim k1
 rename_i ds
 obtain⟨l,xs,rfl,hq,rq⟩:=sN st1.gh q1
 cases (show v=Value.ref l from r1)
 obtain⟨its,rv,pl,_⟩:=I1.list hq
 obtain⟨ob,n,e1,e2,e3,e4⟩:=pl
 refine⟨"list",id,PySem.F.plainAttrs_list,slot,hty,⟨ob,e1,e2⟩,fun a' ea=>by cases ea;exact⟨ob,e1,e3⟩, ?_⟩
 rw [hs]
 refine Calls.callWith_builtin rfl (Calls.evalArgs_plain (Calls.spliced_cons (L2.thn (ha.thn I1 st1.gh (hS.step st1) hx k1) fun u s2 ⟨w,y,G2,H2,I2,r2,st2,q2,k2⟩=>Calls.spliced_nil ?_)))
 exact hm pins s2 σ H2 G2 l xs ds y w u Q E I2 st2.gh (st2.sh.seq hq) (rq.mono st2.sg) q2 r2 k2
theorem iZ (hu:X.A.units+62<cLine) (ho:ML X ad o f) (ha:ME X ad a g) (hs:starEach [a] X.env=(false,eval a X.env)::starEach [] X.env) (hbase:attributeBase o "count" X.env (eval o X.env)=eval o X.env) (hline:(ap.endLine==cp.line)=true):
  ME X ad (.Call (.Attribute o "count" ap) [a] [] cp) (rMeth dCount f g):=by
 refine l8 PySem.F.slot_list_count PySem.F.type_list_count ho ha hs hbase hline ?_
 intro pins s σ H G l xs ds y v u Q E I hG hq rq q r k
 have k':RK X.K ad G H (if inOk y ds then .ok (.int ((ds.countP fun z=>deq z y):Nat)) else .bad) Q E:=k
 by_cases hc:inOk y ds=true
 ·rw [if_pos hc] at k'
  obtain⟨its,rv,⟨⟨cls,dd,data,sl⟩,n,e1,e2,e3,e4⟩,_⟩:=I.list hq
  simp only at e2 e3 e4
  subst e2 e4
  obtain⟨e,he,_,hcount,_⟩:=eB hu I hG hc q r rq rv
  refine call_meets PySem.F.slot_list_count ⟨_,e1,rfl⟩ PySem.F.entry_list_count (PySem.F.args_list_count_2 _ _) (SeqAt.list_countAt l its.toArray n dd sl u e) ⟨e1,he, ?_⟩
  refine⟨.int _,H,I.tok _,⟨_,rfl⟩, ?_⟩
  rw [←hcount] at k'
  exact k'.ok_now hG aD
 ·rw [if_neg hc] at k'
  exact k'.elim
theorem i0 (hu:X.A.units+62<cLine) (ho:ML X ad o f) (ha:ME X ad a g) (hs:starEach [a] X.env=(false,eval a X.env)::starEach [] X.env) (hbase:attributeBase o "index" X.env (eval o X.env)=eval o X.env) (hline:(ap.endLine==cp.line)=true):
  ME X ad (.Call (.Attribute o "index" ap) [a] [] cp) (rMeth dIndex f g):=by
 refine l8 PySem.F.slot_list_index PySem.F.type_list_index ho ha hs hbase hline ?_
 intro pins s σ H G l xs ds y v u Q E I hG hq rq q r k
 have k':RK X.K ad G H (if inOk y ds then(match ds.findIdx? fun z=>deq z y with | some k=> .ok (.int (k:Nat)) | none=> .bad) else .bad) Q E:=k
 by_cases hc:inOk y ds=true
 ·rw [if_pos hc] at k'
  obtain⟨its,rv,⟨⟨cls,dd,data,sl⟩,n,e1,e2,e3,e4⟩,hz⟩:=I.list hq
  simp only at e2 e3 e4
  subst e2 e4
  obtain⟨e,he,_,_,hfind⟩:=eB hu I hG hc q r rq rv
  cases hf:ds.findIdx? fun z=>deq z y with
  | none=>rw [hf] at k';exact k'.elim
  | some j=>
   rw [hf] at k' hfind
   obtain⟨hj,hit,hno⟩:=List.findIdx?_eq_some_iff_getElem.mp hfind
   have hl:=rv.length
   refine call_meets PySem.F.slot_list_index ⟨_,e1,rfl⟩ PySem.F.entry_list_index (PySem.F.args_list_index_2 _ _) (SeqAt.list_indexAt l its.toArray n dd sl u e j (by simpa using hj) ?_ (by simpa using hit) (fun m hm hlt=>by simpa using hno m hlt)) ⟨e1,he, ?_⟩
   ·have:(sizeLine:Nat)<2 ^ 63 - 1:=by decide
    omega
   ·exact⟨.int _,H,I.tok _,⟨_,rfl⟩,k'.ok_now hG aD⟩
 ·rw [if_neg hc] at k'
  exact k'.elim
theorem oI {f:F} {k:D→R} {W:It→Hp→Prop} {Q':VK} (hG:Same G H) (hS:SL X.K ad G H ρ σ) (hx:XP X ad σ E) (hr:IGK X ad G H ((f ρ).bind k) W E)
  (q: ∀ v d G1 H1,Step G H G1 H1→Rep X.K ad G1 d v→IGK X ad G1 H1 (k d) W E→Q' v H1):tE X ad f σ H Q':=by
 have ikst: ∀ {r:R} {G1 H1:Hp},IGK X ad G H r W E→Step G H G1 H1→IGK X ad G1 H1 r W E:=fun {r G1 H1} h st=>by
  cases r with
  | ok d=>obtain⟨ds,e,h⟩:=h;exact⟨ds,e,fun J G' H' st' hi=>h J G' H' (st.trans st') hi⟩
  | ow l=>exact fun J G' H' st' hi=>h J G' H' (st.trans st') hi
  | ex c=>exact fun G' H' st'=>h G' H' (st.trans st')
  | bad=>exact h
 refine⟨G,ρ,E,hG,hS,hx, ?_⟩
 cases e:f ρ with
 | ok d=>
  rw [e] at hr
  exact fun v G1 H1 st r=>q v d G1 H1 st r (ikst hr st)
 | ow xs=>
  rw [e] at hr
  intro p vs G1 H1 st n m e' r
  obtain⟨G2,st2,r2⟩:=aO (X:=X) (ad:=ad) st n m e' r
  exact q _ _ G2 H1 st2 r2 (ikst hr st2)
 | ex c=>
  rw [e] at hr
  exact hr
 | bad=>
  rw [e] at hr
  exact hr
noncomputable def iEn (K:PySem.W.Frag) (ta:TA):TI:=fun σ H R=>ta σ H fun vs H1=> ∃ t l xs,vs=[.ref l]∧SqA t K H1 l xs∧(xs.length≤sizeLine→R (Ite t K l) H1)
theorem l9 {es:List Expr} {kt} {tp:Pos} {ta:TA} (hg:L2.Gl X "enumerate") (hm:X.mg "enumerate"=none) (ha:PA X [a] ta) (he:starEach [a] X.env=(false,eval a X.env)::starEach [] X.env):
  PI X (.Tuple es kt tp) (.Call (.Name "enumerate" p) [a] [] pos) (iEn X.K ta):=by
 intro pins s σ H R I h
 refine Call_ (bN (u:= .type "enumerate") I hg hm (by decide+kernel) (PyProof.Rows.callWith_type1 (L2.thn (ha pos pins s σ H _ I h) fun us s1 ⟨vs,H1,I1,r1,q1⟩=> ?_) he rfl) (by decide) (by decide))
 obtain⟨t,l,xs,rfl,hq,q⟩:=q1
 obtain⟨u,rfl,ru⟩:=r1.one
 cases (show u=Value.ref l from ru)
 obtain⟨its,_,p1,z1⟩:=hF I1 hq
 refine jY p1 fun h' a1 a2 a3 a4=>wpAny_pyIter_enum a1 ?_
 refine⟨s1.heap.objs.size+1,[s1.heap.objs.size+1,s1.heap.objs.size],_,Ite t X.K l,H1,rfl,I1.kept (t':=s1.toks) a4,l7 (Nat.succ_ne_self _),⟨⟨_,a1⟩,a2⟩,fun b hb=> ?_,q z1⟩
 have hb':s1.heap.objs.size≤b:=by
  simp only [List.mem_cons,List.not_mem_nil,or_false] at hb
  rcases hb with rfl | rfl
  ·exact Nat.le_succ _
  ·exact Nat.le_refl _
 exact I1.fpOk hb' (I1.hok.fresh hb')
theorem fV {G1:Hp} {d:D} {v:V} {ds:List D} (r:Rep X.K ad G1 d v) (e:items d=some ds): ∃ t l vs,v= .ref l∧SqA t X.K G1 l vs∧Reps X.K ad G1 ds vs:=by
 cases d<;>try (cases e;done)
 ·cases e;unfold Rep at r;obtain⟨l,vs,rfl,q,t⟩:=r;exact⟨true,l,vs,rfl,q,t⟩
 ·cases e;unfold Rep at r;obtain⟨l,vs,rfl,q,t⟩:=r;exact⟨false,l,vs,rfl,q,t⟩
theorem i5 {t:Bool} {G1 H1:Hp} {l:Addr} {i:Nat} {vs:List V} {ds:List D} {d:D} (h1:SqA t X.K G1 l vs) (r1:Reps X.K ad G1 ds vs) (hg:Same G1 H1) (e:(ds.zipIdx.map fun p=>D.tup [.int (p.2:Nat),p.1])[i]? =some d):
  (Ite t X.K l).go i H1∧ ∀ x H2,(Ite t X.K l).yld i H1 x H2→ ∃ G2,Step G1 H1 G2 H2∧Rep X.K ad G2 d x:=by
 rw [List.getElem?_map,List.getElem?_zipIdx] at e
 cases q:ds[i]? with
 | none=>rw [q] at e;cases e
 | some x=>
  rw [q] at e
  have e2:=(Option.some.inj e).symm
  simp only [Nat.zero_add] at e2
  subst e2
  obtain⟨v,g1,q1⟩:=r1.get q
  refine⟨⟨vs,v,aR hg h1,g1⟩, ?_⟩
  rintro x' H2' ⟨p,x2,hn,rfl,b1,rfl⟩
  have c1:=b1 vs (aR hg h1);rw [g1] at c1;cases c1
  refine⟨upd G1 p (.tup [.int i,v]),Step.new hg hn, ?_⟩
  have sm:Same G1 (upd G1 p (.tup [.int i,v])):=Same.upd_new (hg.free hn)
  unfold Rep
  exact⟨p,[.int i,v],rfl,SqT.of aE,Reps.cons aD (Reps.cons (q1.mono sm) Reps.nil)⟩
theorem sO {es:List Expr} {kt} {tp:Pos} (hg:L2.Gl X "enumerate") (hm:X.mg "enumerate"=none) (ha:ME X ad a f) (he:starEach [a] X.env=(false,eval a X.env)::starEach [] X.env):
  MI X ad (.Tuple es kt tp) (.Call (.Name "enumerate" p) [a] [] pos) (iEnum f):=by
 intro pins s σ H W I ⟨G,ρ,E,hG,hS,hx,hr⟩
 refine l9 (ta:=tCons (tE X ad f) tNil) hg hm (aQ ha bA he) he pins s σ H W I ?_
 show tE X ad f σ H fun v H1=> ∃ t l xs,[v]=[.ref l]∧SqA t X.K H1 l xs∧(xs.length≤sizeLine→W (Ite t X.K l) H1)
 refine lK hG hS hx hr fun v d G1 H1 st r k=> ?_
 have k':IK X ad G1 H1 (match items d with | some xs=> .ok (.lst (xs.zipIdx.map fun p=>D.tup [.int (p.2:Nat),p.1])) | none=> .bad) W E:=k
 cases e:items d with
 | none=>rw [e] at k';exact k'.elim
 | some ds=>
  rw [e] at k'
  obtain⟨al,e2,hw⟩:=k'
  cases e2
  obtain⟨t,l,vs,rfl,q1,t1⟩:=fV r e
  have n1:=t1.length
  refine⟨t,l,vs,rfl,aR st.gh q1,fun few=>hw _ G1 H1 (Step.refl st.gh) ⟨fun i G3 H3 d' s3 e=>i5 (aR s3.sg q1) (t1.mono s3.sg) s3.gh e,fun G3 H3 s3=>⟨vs,aR s3.sh (aR st.gh q1),by simp;omega⟩,by simp;omega⟩⟩
theorem oJ {es:List Expr} {kt} {tp:Pos} (hg:L2.Gl X "enumerate") (hm:X.mg "enumerate"=none) (ha:ME X ad a f) (he:starEach [a] X.env=(false,eval a X.env)::starEach [] X.env):
  MIG X ad (.Tuple es kt tp) (.Call (.Name "enumerate" p) [a] [] pos) (iEnum f):=by
 intro pins s σ H W I ⟨G,ρ,E,hG,hS,hx,hr⟩
 refine l9 (ta:=tCons (tE X ad f) tNil) hg hm (aQ ha bA he) he pins s σ H W I ?_
 show tE X ad f σ H fun v H1=> ∃ t l xs,[v]=[.ref l]∧SqA t X.K H1 l xs∧(xs.length≤sizeLine→W (Ite t X.K l) H1)
 refine oI hG hS hx hr fun v d G1 H1 st r k=> ?_
 have k':IGK X ad G1 H1 (match items d with | some xs=> .ok (.lst (xs.zipIdx.map fun p=>D.tup [.int (p.2:Nat),p.1])) | none=> .bad) W E:=k
 cases e:items d with
 | none=>rw [e] at k';exact k'.elim
 | some ds=>
  rw [e] at k'
  obtain⟨al,e2,hw⟩:=k'
  cases e2
  obtain⟨t,l,vs,rfl,q1,t1⟩:=fV r e
  have n1:=t1.length
  refine⟨t,l,vs,rfl,aR st.gh q1,fun few=>hw _ G1 H1 (Step.refl st.gh) ⟨fun i G3 H3 d' s3 s4 e=>i5 (aR s3 q1) (t1.mono s3) s4 e,fun G3 H3 s3 s4=>⟨vs,aR s4 (aR s3 q1),by simp;omega⟩⟩⟩
theorem oK (hc:MT X ad c h) (ha:MT X ad a f) (hb:MT X ad b g):MT X ad (.IfExp c a b pos) (rIf h f g):=by
 intro pins s σ H Q I ⟨G,ρ,E,hG,hS,hx,ht,hr⟩
 have hr':RK X.K ad G H ((h ρ).bind fun x=>match x with | .bl true=>f ρ | .bl false=>g ρ | _=> .bad) (fun v H'=> ∃ b,v= .bl b∧Q b H') E:=hr
 have ht':isTest ((h ρ).bind fun x=>match x with | .bl true=>f ρ | .bl false=>g ρ | _=> .bad):=ht
 have e:isTrue (.IfExp c a b pos) X.env (eval (.IfExp c a b pos) X.env)=(do if←isTrue c X.env (eval c X.env) then isTrue a X.env (eval a X.env) else isTrue b X.env (eval b X.env)):=rfl
 rw [e]
 refine wpAny_bind ?_
 rcases bB ht' with ⟨d,e1,ht2⟩ | ⟨xs,e1,ht2⟩ | ⟨k,e1⟩
 ·cases d<;>try exact(aI ht2).elim
  rename_i k
  rw [e1] at hr'
  refine L2.thn (hc pins s σ H (fun b H1=>b=k∧ ∃ G1,Step G H G1 H1) I ⟨G,ρ,E,hG,hS,hx, .inl ⟨k,e1⟩, ?_⟩) fun b s1 ⟨H1,I1,e2,G1,st⟩=> ?_
  ·rw [e1]
   intro v G1 H1 st r
   unfold Rep at r;subst r
   exact⟨k,rfl,rfl,G1,st⟩
  ·subst e2
   cases b with
   | true=>exact wpAny_ite_true (by decide) (ha pins s1 σ H1 Q I1 ⟨G1,ρ,E,st.gh,hS.step st,hx,ht2,RK.step hr' st⟩)
   | false=>exact wpAny_ite_false (by decide) (hb pins s1 σ H1 Q I1 ⟨G1,ρ,E,st.gh,hS.step st,hx,ht2,RK.step hr' st⟩)
 ·exact(aI ht2).elim
 ·rw [e1] at hr'
  refine L2.thn (hc pins s σ H (fun b H1=>False) I ⟨G,ρ,E,hG,hS,hx, .inr ⟨k,e1⟩, ?_⟩) fun b s1 ⟨H1,I1,z⟩=>z.elim
  rw [e1]
  exact hr'
end
section
variable {X:Cx} {ad:Ad} {pins:List (Addr×Obj)} {s:Shared} {σ:St} {H G:Hp} {ρ:Rho} {Q:VK} {E:Nat→Hp→Prop} {pos p p2 pos2:Pos} {a:Expr} {f:F}
end
section
variable {prog:Program} {w:World} {A:Around} {Ex:Value→Shared→Prop} {s:Shared}
end
section
variable {X:Cx} {ad:Ad}
end
section
variable {prog:Program} {w:World} {A:Around} {Ex:Value→Shared→Prop} {s:Shared}
end
section
variable {prog:Program} {w:World} {A:Around} {Ex:Value→Shared→Prop} {s:Shared}
end
section
variable {X:Cx} {ad:Ad} {pos p p2 pos2:Pos} {a:Expr} {f:F}
end
theorem mB: ∀ (l:List Int) (m:Int),m≤maxL m l∧ ∀ x∈l,x≤maxL m l
 | [],m=>⟨Int.le_refl _,nofun⟩
 | i::r,m=>by
  have h:=mB r (if m<i then i else m)
  unfold maxL
  by_cases c:m<i
  ·rw [if_pos c] at h ⊢
   exact⟨by omega,fun x hx=>by rcases List.mem_cons.1 hx with e | e;(subst e;exact h.1);exact h.2 x e⟩
  ·rw [if_neg c] at h ⊢
   exact⟨h.1,fun x hx=>by rcases List.mem_cons.1 hx with e | e;(subst e;omega);exact h.2 x e⟩
theorem i6: ∀ (l:List Int) (m:Int),maxL m l∈m::l
 | [],m=> .head _
 | i::r,m=>by
  unfold maxL
  have h:=i6 r (if m<i then i else m)
  by_cases c:m<i
  ·rw [if_pos c] at h ⊢;exact .tail _ h
  ·rw [if_neg c] at h ⊢
   rcases List.mem_cons.1 h with e | e
   ·rw [e];exact .head _
   ·exact .tail _ (.tail _ e)
theorem oM {l:List Int} {j:Nat} (h:j<l.length):l.getD j 0∈l:=by
 have e:l.getD j 0=l[j]:=by simp [h]
 rw [e];exact List.getElem_mem h
theorem oN {l:List Int} {x:Int} (h:x∈l): ∃ j,j<l.length∧l.getD j 0=x:=by
 obtain⟨j,hj,e⟩:=List.getElem_of_mem h
 exact⟨j,hj,by simp [hj,e]⟩
theorem wG {n:Int} {r:List Int} {j:Nat} (hj:j<(n::r).length) (h: ∀ i,i<(n::r).length→(n::r).getD i 0≤(n::r).getD j 0):(n::r).getD j 0=maxL n r:=by
 have a:=mB r n
 have b:=oM hj
 obtain⟨k,hk,e⟩:=oN (i6 r n)
 have c:=h k hk
 have d:(n::r).getD j 0≤maxL n r:=by
  rcases List.mem_cons.1 b with e | e
  ·rw [e];exact a.1
  ·exact a.2 _ e
 rw [e] at c;omega
section
variable {X:Cx} {ad:Ad}
theorem oO (hh:X.A.handled=none):BOp X ad (.builtin "max") dMax1:=by
 intro pins s σ H G x v u Q E I hG q ru hr
 have hr':RK X.K ad G H (match(items x).bind dInts with | some (n::ns)=> .ok (.int (maxL n ns)) | _=> .bad) Q E:=hr
 cases e:items x with
 | none=>rw [e] at hr';exact hr'.elim
 | some ds=>
  rw [e] at hr'
  have hr2:RK X.K ad G H (match dInts ds with | some (n::ns)=> .ok (.int (maxL n ns)) | _=> .bad) Q E:=hr'
  cases e2:dInts ds with
  | none=>rw [e2] at hr2;exact hr2.elim
  | some ns=>
   rw [e2] at hr2
   cases ns with
   | nil=>exact hr2.elim
   | cons n ns=>
   obtain⟨p,vs,rfl,hq,rq⟩:=q.items hG e
   have hq':SqL X.K H p vs∨SqT X.K H p vs:=hq.elim (fun z=> .inr z.2) fun z=> .inl z.2
   cases (show u=Value.ref p from ru)
   have ev:=bR e2 rq
   subst ev
   refine call_max_walkS (bS (A:=X.A.in1) hh I hq' fun its s2 I' fp wr Stt rv W st hfp h1 h2 h3 h4 h5=> ?_)
   have hl:its.length=(n::ns).length:=by rw [←rv.length,List.length_map]
   refine⟨I',fp,wr,_,its.length,_,_,_,rfl,W.toS,st,hfp,by rw [hl];simp,CmpOf.ints_gt (fun i=>(n::ns).getD i 0) fun i v e=>iP rv e,fun v s' hv m=> ?_⟩
   obtain⟨t',rfl⟩:=iP rv hv
   have hb:=argBest_gt (fun i=>(n::ns).getD i 0) (its.length - 1)
   refine⟨.int (maxL n ns),H,I.moved h5 h4 h1 h2 h3 m,⟨t', ?_⟩,hr2.ok_now hG aD⟩
   rw [wG (by rw [←hl];have:0<its.length:=(by rw [hl];simp);omega) fun i hi=>hb.2 i (by omega)]
end
section
variable {prog:Program} {w:World} {A:Around} {Ex:Value→Shared→Prop} {s:Shared}
end
section
variable {prog:Program} {w:World} {A:Around} {Ex:Value→Shared→Prop} {s:Shared}
end
section
open AutoSeq1 (wpAny_loadPart')
open MeetsSeq MeetsSeq2 MeetsSeq3 SeqRoads2 SeqAt
end
section
variable {X:Cx} {ad:Ad} {pins:List (Addr×Obj)} {s:Shared} {σ:St} {H G:Hp} {ρ:Rho} {Q:VK} {E:Nat→Hp→Prop} {pos p ap cp tp:Pos} {o a b c tg:Expr} {f g h:F}
theorem oP {A:Around} {Q:Value→Shared→Prop} {Ex:Value→Shared→Prop} {d:D} {v:V} {u t:Value} {b:Bool} {tp:Addr} {dd:Option Addr} {its:List Value} {n:Nat} {sl:Array (Option Value)} (hx: ∀ c,ExcCls X.K (ad.cls c)) (I:Inv X pins σ H s) (hG:Same G H) (q:Rep X.K ad G d v) (r:RelV v u) (ht:tyD ad d=some t)
  (htp:s.heap.get? tp=some ⟨.type "tuple",dd, .seq its.toArray n,sl⟩) (e:kitAny X.K t its=some b) (h: ∀ tk,Q (.bool b) { s with toks:=tk }):wpAny (model X.prog X.w) A (call (.builtin "isinstance") [u, .ref tp]) Q Ex s:=by
 cases d with
 | non=>unfold Rep at q;subst q;cases (show u=Value.none from r);cases ht;exact kia_tup kitx_none I.kIn True.intro htp e (by intro z;cases z) h
 | bl k=>unfold Rep at q;subst q;cases (show u=Value.bool k from r);cases ht;exact kia_tup kitx_bool I.kIn True.intro htp e (by intro z;cases z) h
 | int k=>unfold Rep at q;subst q;obtain⟨t',rfl⟩:=r;cases ht;exact kia_tup kitx_int I.kIn True.intro htp e (by intro z;cases z) h
 | str k=>unfold Rep at q;subst q;obtain⟨t',rfl⟩:=r;cases ht;exact kia_tup kitx_str I.kIn True.intro htp e (by intro z;cases z) h
 | tup ds=>
  unfold Rep at q
  obtain⟨p,vs,rfl,hp,_⟩:=q
  cases (show u=Value.ref p from r)
  cases ht
  obtain⟨its,_,⟨o,h1,h2,_⟩,_⟩:=I.tuple (hG.seqT hp)
  exact kia_tup kitx_tuple I.kIn ⟨o,h1,h2⟩ htp e (by intro z;cases z) h
 | lst ds=>
  unfold Rep at q
  obtain⟨p,vs,rfl,hp,_⟩:=q
  cases (show u=Value.ref p from r)
  cases ht
  obtain⟨its,_,⟨o,n,h1,h2,_⟩,_⟩:=I.list (hG.seq hp)
  exact kia_tup kitx_list I.kIn ⟨o,h1,h2⟩ htp e (by intro z;cases z) h
 | exc c=>
  unfold Rep at q
  obtain⟨p,rfl,hp⟩:=q
  cases (show u=Value.ref p from r)
  cases ht
  obtain⟨ex,_,_⟩:=(show ObjOk X.prog X.w H s.heap p (excO (ad.cls c) p) from I.hok p _ (hG _ _ hp))
  exact kia_tup (iX (hx c)) I.kIn ex htp e (by intro z;cases z) h
 | fn k=>cases ht
theorem oQ {t t':Str} {cv cv':Value} {P P':D→Option Bool} {p1 p2:Pos} {j:Nat} (hx: ∀ c,ExcCls X.K (ad.cls c)) (hg:L2.Gl X "isinstance") (hm:X.mg "isinstance"=none) (c:ClNm X t cv) (k:IsOk X ad cv P) (c':ClNm X t' cv') (k':IsOk X ad cv' P') (ha:ME X ad a f)
  (he:starEach [a, .Tuple [.Name t p1, .Name t' p2] j tp] X.env=(false,eval a X.env)::starEach [.Tuple [.Name t p1, .Name t' p2] j tp] X.env):ME X ad (.Call (.Name "isinstance" p) [a, .Tuple [.Name t p1, .Name t' p2] j tp] [] pos) (rIs (orP P P') f):=by
 intro pins s σ H Q I ⟨G,ρ,E,hG,hS,hx',hr⟩
 refine wpAny_Call_Name_kw (bN (u:= .builtin "isinstance") I hg hm (by decide+kernel) ?_ (by decide) (by decide))
 refine PyProof.Rows.callWith_builtin1 ?_ he rfl
 rw [he]
 refine Calls.spliced_cons (L2.thn (ha.thn I hG hS hx' hr) fun u s1 hz_=> ?_)
 obtain⟨v,d,G1,H1,I1,r1,st,q,k1⟩:=hz_
 refine Calls.spliced_cons (wpAny_Tuple_spliced (x1:=j) (Calls.spliced_cons (c.ev I1 (Calls.spliced_cons (c'.ev I1 (Calls.spliced_nil ⟨(by decide:2≤sizeLine),Calls.spliced_nil ?_⟩))))))
 have k1':RK X.K ad G1 H1 (match orP P P' d with | some b=> .ok (.bl b) | none=> .bad) Q E:=k1
 cases e:orP P P' d with
 | none=>rw [e] at k1';exact k1'.elim
 | some b=>
  rw [e] at k1'
  have I2:Inv X pins σ H1 { s1 with heap:=s1.heap.push { cls:= .type "tuple",data:= .seq #[cv,cv'] } }:=I1.kept (t':=s1.toks) fun b ob q=>Heap.get?_push_of_some _ q
  unfold orP at e
  split at e
  ·rename_i x y e1 e2
   cases e
   obtain⟨ty,z1,z2⟩:=k d x e1
   obtain⟨ty',z3,z4⟩:=k' d y e2
   cases z1.symm.trans z3
   refine oP (its:=[cv,cv']) hx I2 st.gh q r1 z1 (Heap.get?_push_size _ rfl) ?_ fun tk=>⟨.bl (x||y),H1,I2.tok tk,rfl,k1'.ok_now st.gh aG⟩
   cases x<;>cases y<;>simp [kitAny,z2,z4]
  ·cases e
theorem sP (ho:ME X ad o f) (hbase:attributeBase o "bit_length" X.env (eval o X.env)=eval o X.env) (hline:(ap.endLine==cp.line)=true):ME X ad (.Call (.Attribute o "bit_length" ap) [] [] cp) (rCall dBits [f]):=by
 intro pins s σ H Q I ⟨G,ρ,E,hG,hS,hx,hr⟩
 unfold rCall at hr
 rw [cR] at hr
 refine wpAny_Call_method_late hbase (by rfl) hline rfl (L2.thn (ho.thn I hG hS hx hr) fun v s1 hz_=> ?_)
 obtain⟨x,d,G1,H1,I1,r1,st1,q1,k1⟩:=hz_
 cases d<;>try exact False.elim k1
 rename_i i
 unfold Rep at q1;subst q1
 obtain⟨t,rfl⟩:=r1
 have k2:RK X.K ad G1 H1 (.ok (.int (Builtin.Int.intBits i))) Q E:=k1
 refine⟨"int","int.bit_length",PySem.F.plainAttrs_int,PySem.F.slot_int_bit_length,PySem.F.type_int_bit_length,typeIs_int s1 i t,(fun a' ea=>by cases ea), ?_⟩
 refine PyProof.Rows.callWith_method0 ?_
 exact call_int_bit_length ⟨.int _,H1,I1.tok _,⟨_,rfl⟩,k2.ok_now st1.gh aD⟩
end
noncomputable def tab (m mv:Nat) (ps:List Nat):SetTable:={ mask:=m,place:=ps.toArray,dummies:= #[],finger:=0,led:=true,moves:=mv,plain:=true }
section
variable {prog:Program} {w:World} {A:Around} {E:Value→Shared→Prop} {s:Shared}
end
section
variable {prog:Program} {w:World} {A:Around} {E:Value→Shared→Prop} {s:Shared}
noncomputable def ddS (acc:List Nat) (n:Nat):List Nat:=if n∈acc then acc else n::acc
noncomputable def dd (ns:List Nat):List Nat:=ns.foldl ddS []
end
section
variable {prog:Program} {w:World} {A:Around} {E:Value→Shared→Prop} {s:Shared}
end
section
variable {prog:Program} {w:World} {A:Around} {E:Value→Shared→Prop} {s:Shared}
end
section
variable {prog:Program} {w:World} {A:Around} {E:Value→Shared→Prop} {s:Shared}
end
section
variable {prog:Program} {w:World} {A:Around} {E:Value→Shared→Prop} {R:Result→Shared→Prop} {I:Addr} {fp wr:List Addr} {G:Array GenState→Array GenState→Prop} {n:Nat} {P:Nat→Value→Prop} {St:Nat→Shared→Prop}
theorem sQ {i j:Int} {t u:Tok} {s:Shared} {Q:Value→Shared→Prop} (h:Q (.bool (decide (i > j))) s):wpAny (model prog w) A (richCompare .Gt (.int i t) (.int j u)) Q E s:=
 CmpOf.ints_gt (P:=fun k v=>(k=0∧v= .int i t)∨(k=1∧v= .int j u)) (fun k=>if k=0 then i else j) (fun k v hk=>by rcases hk with ⟨rfl,rfl⟩ | ⟨rfl,rfl⟩<;>exact⟨_,rfl⟩) 0 1 _ _ s Q E (.inl ⟨rfl,rfl⟩) (.inr ⟨rfl,rfl⟩) h
theorem mC (W:WalksS prog w A.in1 I fp wr G n P St) (val:Nat→Int) (hval: ∀ i v,P i v→ ∃ t,v= .int (val i) t) (S:Addr) (hSf:S∉fp) (kw:List (Str×Value)):
  ∀ (k i:Nat) (s:Shared) (m:Int) (tm:Tok) (c:Nat),n - i=k→i≤n→St i s→s.heap.get? S=some { cls:= .type "list",dict:=none,data:= .seq #[.int m tm, .int m tm] c,slots:= #[] }→
  (∀ s' t',Moved (S::wr) G s s'→R (.ok (.ret (.int (maxL m (((List.range n).drop i).map val)) t'))) s')→codeAny (model prog w) A (.builtin "max.loop" ⟨[.ref I, .none, .ref S],kw⟩) R s:=by
 have hSw:S∉wr:=fun h=>hSf (W.sub _ h)
 have sub: ∀ b∈wr,b∈S::wr:=fun b hb=> .tail _ hb
 have hname:(toString "max"++toString ".loop":String)="max.loop":=by decide
 have notS: ∀ {b:Addr},b∉S::wr→S≠b:=fun hb h=>hb (by rw [h];exact .head _)
 intro k
 induction k with
 | zero=>
  intro i s m tm c hk hi hst hS hR
  have hin:i=n:=by omega
  subst hin
  refine codeAny_builtin PySem.F.entry_max_loop ?_
  rw [Around.under_plainId PySem.F.plain_max_loop _]
  show wpAny _ A.in1 (seqItems? (.ref S) >>= _) _ _ s
  refine wpAny_bind (wpAny_seqItems hS rfl ?_)
  show wpAny _ A.in1 (tryCatch (pyNext (.ref I)) _ >>= _) _ _ s
  refine wpAny_bind (wpAny_tryCatch (W.done s _ _ hst fun s' hm=> ?_))
  have hS':=hm.heap S _ hSw hS
  show wpAny _ A.in1 (updateSeq S (fun _=> #[]) >>= _) _ _ _
  refine wpAny_bind ?_
  refine wpAny_updateSeq hS' rfl (wpAny_bind (wpAny_letGo (wpAny_pure ?_)))
  have:=hR _ tm ((hm.mono sub).then_heap (tk:=s'.toks) (Nat.le_refl _) fun b o hb e=>(Heap.get?_update_other _ (Obj.mapSeq fun _=> #[]) (notS hb)).trans e)
  rw [List.drop_of_length_le (by simp)] at this
  exact this
 | succ k ih=>
  intro i s m tm c hk hi hst hS hR
  have hlt:i<n:=by omega
  have hd:(List.range n).drop i=i::(List.range n).drop (i+1):=by
   rw [List.drop_eq_getElem_cons (by simpa using hlt)];simp
  refine codeAny_builtin PySem.F.entry_max_loop ?_
  rw [Around.under_plainId PySem.F.plain_max_loop _]
  show wpAny _ A.in1 (seqItems? (.ref S) >>= _) _ _ s
  refine wpAny_bind (wpAny_seqItems hS rfl ?_)
  show wpAny _ A.in1 (tryCatch (pyNext (.ref I)) _ >>= _) _ _ s
  refine wpAny_bind (wpAny_tryCatch (W.item i s _ _ hlt hst fun v s' hP hst' hm=> ?_))
  obtain⟨t,rfl⟩:=hval i v hP
  have hS':=hm.heap S _ hSw hS
  show wpAny _ A.in1 (tryCatch (holding [.int (val i) t, .int (val i) t] (richCompare .Gt (.int (val i) t) (.int m tm) >>= _)) _ >>= _) _ _ _
  refine wpAny_bind (wpAny_tryCatch (wpAny_holding (wpAny_bind (sQ ?_))))
  refine wpAny_bind (wpAny_holding (wpAny_truthy_bool ?_))
  refine wpAny_bind (wpAny_letGo (wpAny_pure ?_))
  by_cases hb:val i > m
  ·rw [decide_eq_true hb]
   simp only [if_true]
   refine wpAny_bind ?_
   refine wpAny_updateSeq hS' rfl (wpAny_bind (wpAny_letGo ?_))
   rw [hname]
   refine wpAny_pure ⟨plainId_quiet PySem.F.plain_max_loop _,ih (i+1) _ (val i) t _ (by omega) hlt (W.frame _ s' _ s'.toks hst' (Nat.le_refl _) fun b hbf o e=> ?_) (Heap.get?_update_self _ hS' rfl) fun s'' t' hm''=> ?_⟩
   ·exact(Heap.get?_update_other _ _ (fun h:S=b=>hSf (by rw [h];exact hbf))).trans e
   ·have:=hR s'' t' (Moved.trans W.gtrans ((hm.mono sub).then_heap (by first | exact Nat.le_refl _ | exact Nat.le_succ _ | omega) fun b o hb e=>(Heap.get?_update_other _ _ (notS hb)).trans e) hm'')
    rw [hd,List.map_cons] at this
    unfold maxL at this
    rw [if_pos (by omega)] at this
    exact this
  ·rw [decide_eq_false hb]
   simp only [Bool.false_eq_true,if_false]
   refine wpAny_bind (wpAny_letGo ?_)
   rw [hname]
   refine wpAny_pure ⟨plainId_quiet PySem.F.plain_max_loop _,ih (i+1) _ m tm _ (by omega) hlt hst' hS' fun s'' t' hm''=> ?_⟩
   have:=hR s'' t' (Moved.trans W.gtrans (hm.mono sub) hm'')
   rw [hd,List.map_cons] at this
   unfold maxL at this
   rw [if_neg (by omega)] at this
   exact this
theorem mD (a d:Value):argsOk "max" ⟨[a],[(Str.ofString "default",d)]⟩:=by unfold argsOk;kernel_rfl
theorem mE {x d:Value} {s:Shared} {Q:Value→Shared→Prop}
  (h:wpAny (model prog w) A.in1 (pyIter x) (fun it s₂=> ∃ I fp wr G n P St val,it= .ref I∧WalksS prog w A.in1 I fp wr G n P St∧St 0 s₂∧(∀ b∈fp,b<s₂.heap.objs.size)∧(∀ i v,P i v→ ∃ t,v= .int (val i) t)∧
   (n=0→ ∀ s',Moved wr G s₂ s'→Q d s')∧(0<n→ ∀ s' t',Moved wr G s₂ s'→Q (.int (maxL (val 0) (((List.range n).drop 1).map val)) t') s')) E s):
  wpAny (model prog w) A (call (.builtin "max") [x] [(Str.ofString "default",d)]) Q E s:=by
 have hname:(toString "max"++toString ".loop":String)="max.loop":=by decide
 refine wpAny_call (codeAny_call_builtin PySem.F.plain_max PySem.F.entry_max ?_)
 simp only [checkBuiltinCall,PySem.F.kind_max]
 have body:wpAny (model prog w) A.in1 (Builtin.«max» ⟨[x],[(Str.ofString "default",d)]⟩) (fun fin s'=>match fin with
   | .done f=>(match(Except.ok f:Result) with | .ok (.ret v)=>Q v s' | .ok _=>False | .error e=>E e s')
   | .again c'=>c'.quiet=true∧codeAny (model prog w) A c' (fun r s'=>match r with | .ok (.ret v)=>Q v s' | .ok _=>False | .error e=>E e s') s') E s:=by
  show wpAny _ A.in1 (Builtin.Builtins.bindParams "max" ["key","default"] 0 ⟨[],[(Str.ofString "default",d)]⟩ >>= _) _ _ s
  refine wpAny_bind (wpAny_of_eq (show Builtin.Builtins.bindParams "max" ["key","default"] 0 ⟨[],[(Str.ofString "default",d)]⟩=pure [none,some d] from rfl) ?_)
  refine wpAny_bind (wpAny_pure ?_)
  refine wpAny_bind (wpAny_mono h (fun it s₂ h₂=> ?_) fun _ _ e=>e)
  obtain⟨I,fp,wr,G,n,P,St,val,rfl,W,hst,hfp,hval,h0,h1⟩:=h₂
  refine wpAny_bind (wpAny_newObj_type ?_)
  have hSf:s₂.heap.objs.size∉fp:=fun hm=>Nat.lt_irrefl _ (hfp _ hm)
  have hSw:s₂.heap.objs.size∉wr:=fun h=>hSf (W.sub _ h)
  have sub: ∀ b∈wr,b∈s₂.heap.objs.size::wr:=fun b hb=> .tail _ hb
  have notS: ∀ {b:Addr},b∉s₂.heap.objs.size::wr→s₂.heap.objs.size≠b:=fun hb h=>hb (by rw [h];exact .head _)
  have hst1:=W.frame 0 s₂ (s₂.heap.push { cls:= .type "list",data:= .seq ([]:List Value).toArray }) s₂.toks hst (Nat.le_refl _) fun b _ o e=>Heap.get?_push_of_some _ e
  have hS:(s₂.heap.push { cls:= .type "list",data:= .seq ([]:List Value).toArray }).get? s₂.heap.objs.size=some { cls:= .type "list",data:= .seq ([]:List Value).toArray }:=Heap.get?_push_size _ rfl
  rw [hname]
  refine wpAny_pure ⟨plainId_quiet PySem.F.plain_max_loop _,codeAny_builtin PySem.F.entry_max_loop ?_⟩
  rw [Around.under_plainId PySem.F.plain_max_loop _]
  show wpAny _ A.in1 (seqItems? (.ref s₂.heap.objs.size) >>= _) _ _ _
  refine wpAny_bind (wpAny_seqItems hS rfl ?_)
  show wpAny _ A.in1 (tryCatch (pyNext (.ref I)) _ >>= _) _ _ _
  rcases Nat.eq_zero_or_pos n with z | z
  ·refine wpAny_bind (wpAny_tryCatch (W.done _ _ _ (by rw [z];exact hst1) fun s' hm=> ?_))
   show wpAny _ A.in1 (rule _ >>= fun _=>ret d) _ _ _
   exact wpAny_bind (wpAny_rule (wpAny_pure (h0 z s' (Moved.drop_new (tk:=s₂.toks) (hm.mono sub) (Nat.le_refl _)))))
  ·refine wpAny_bind (wpAny_tryCatch (W.item 0 _ _ _ z hst1 fun v s' hP hst' hm=> ?_))
   obtain⟨t,rfl⟩:=hval 0 v hP
   have hS':=hm.heap _ _ hSw hS
   show wpAny _ A.in1 (updateSeq s₂.heap.objs.size (fun _=> #[.int (val 0) t, .int (val 0) t]) >>= _) _ _ _
   refine wpAny_bind ?_
   refine wpAny_updateSeq hS' rfl ?_
   rw [hname]
   refine wpAny_pure ⟨plainId_quiet PySem.F.plain_max_loop _,mC W val hval s₂.heap.objs.size hSf _ _ 1 _ (val 0) t _ rfl z (W.frame _ s' _ s'.toks hst' (Nat.le_refl _) fun b hbf o e=> ?_) (Heap.get?_update_self _ hS' rfl) fun s'' t' hm''=> ?_⟩
   ·exact(Heap.get?_update_other _ _ (fun h:s₂.heap.objs.size=b=>hSf (by rw [h];exact hbf))).trans e
   ·exact h1 z s'' t' (Moved.drop_new (tk:=s₂.toks) (Moved.trans W.gtrans ((hm.mono sub).then_heap (by first | exact Nat.le_refl _ | exact Nat.le_succ _ | omega) fun b o hb e=>(Heap.get?_update_other _ _ (notS hb)).trans e) hm'') (Nat.le_refl _))
 cases hsig:Manifest.signature? "max" with
 | none=>exact wpAny_pure body
 | some sig=>
  have ha':Bind.checkArgs "max" sig ⟨[x],[(Str.ofString "default",d)]⟩=pure ():=by
   have:=mD x d
   simpa only [argsOk,hsig] using this
  simp only [ha']
  exact wpAny_pure body
end
noncomputable def tbl (m mv:Nat) (led:Bool) (ps:List Nat):SetTable:={ mask:=m,place:=ps.toArray,dummies:= #[],finger:=0,led:=led,moves:=mv,plain:=true }
noncomputable def adv (m:Nat) (p:SetTable.Probe):SetTable.Probe:=(tab m 0 []).advance p
noncomputable def pr (m:Nat) (h:Int):Nat→SetTable.Probe
 | 0=>(tab m 0 []).probeStart h
 | k+1=>adv m (pr m h k)
noncomputable def lp (m:Nat) (h:Int):Nat→Nat×Nat
 | 0=>(SetTable.bits h % (m+1),SetTable.bits h)
 | r+1=>SetTable.leap m (lp m h r).1 (lp m h r).2
def Rch (m:Nat) (h:Int) (ps:List Nat) (p:Nat):Prop:= ∃ k,k<10 * SetTable.turns m∧(pr m h k).j=p∧ ∀ b,b<k→(pr m h b).j∈ps
structure TI (m:Nat) (L:List (Nat×Int×Value)):Prop where
 up:(L.map (·.1)).Pairwise (· < ·)
 le: ∀ x∈L,x.1≤m
 rch: ∀ x∈L,Rch m x.2.1 (L.map (·.1)) x.1
mutual
noncomputable def hk:PyData→Bool
 | .none=>true
 | .int _=>true
 | .tuple xs=>hks xs
 | _=>false
noncomputable def hks:List PyData→Bool
 | []=>true
 | x::xs=>hk x&&hks xs
end
mutual
noncomputable def hsh:PyData→Int
 | .none=>0xFCA86420
 | .int i=>hashInt i
 | .tuple xs=>reduceHash (Builtin.Tuple.tupleHashOf (hshs xs))
 | _=>0
noncomputable def hshs:List PyData→List Int
 | []=>[]
 | x::xs=>hsh x::hshs xs
end
mutual
theorem i7: ∀ d:PyData,hk d=true→d.canLay0=true
 | .none,_=>rfl
 | .int _,_=>rfl
 | .tuple xs,h=>by
  rw [hk] at h
  rw [PyData.canLay0]
  exact mF xs h
 | .bool _,h=>by simp [hk] at h
 | .str _,h=>by simp [hk] at h
 | .list _,h=>by simp [hk] at h
 | .dict _,h=>by simp [hk] at h
theorem mF: ∀ xs:List PyData,hks xs=true→PyData.canLayAll0 xs=true
 | [],_=>rfl
 | x::xs,h=>by
  rw [hks,Bool.and_eq_true] at h
  rw [PyData.canLayAll0,i7 x h.1,mF xs h.2]
  rfl
end
mutual
theorem hU: ∀ d1 d2:PyData,hk d1=true→hk d2=true→PyData.eqv d1 d2=true→d1=d2
 | .none,d2,_,h2,e=>by cases d2<;>simp [hk] at h2<;>simp [PyData.eqv] at e ⊢
 | .int i,d2,_,h2,e=>by cases d2<;>simp [hk] at h2<;>simp [PyData.eqv] at e ⊢<;>exact e
 | .tuple xs,d2,h1,h2,e=>by
  cases d2<;>simp [hk] at h2<;>simp [PyData.eqv] at e
  rename_i ys
  rw [i8 xs ys (by simpa [hk] using h1) h2 e]
 | .bool _,_,h,_,_=>by simp [hk] at h
 | .str _,_,h,_,_=>by simp [hk] at h
 | .list _,_,h,_,_=>by simp [hk] at h
 | .dict _,_,h,_,_=>by simp [hk] at h
theorem i8: ∀ xs ys:List PyData,hks xs=true→hks ys=true→PyData.eqvAll xs ys=true→xs=ys
 | [],[],_,_,_=>rfl
 | [],_::_,_,_,e=>by simp [PyData.eqvAll] at e
 | _::_,[],_,_,e=>by simp [PyData.eqvAll] at e
 | x::xs,y::ys,h1,h2,e=>by
  rw [hks,Bool.and_eq_true] at h1 h2
  rw [PyData.eqvAll,Bool.and_eq_true] at e
  rw [hU x y h1.1 h2.1 e.1,i8 xs ys h1.2 h2.2 e.2]
end
section
variable {prog:Program} {w:World}
theorem fW {A:Around} {s:Shared} {Q:Int→Shared→Prop} {E:Value→Shared→Prop} (h:Q 0xFCA86420 { s with toks:=s.toks+1 }):wpAny (model prog w) A (pyHash .none) Q E s:=by
 have hT:s.TypeIs .none "NoneType":=rfl
 unfold pyHash pyHashByItsType
 refine wpAny_bind (wpAny_cRoomFor_or (.inl rfl) ?_)
 refine wpAny_bind (wpAny_specialOf hT F.slot_NoneType_hash.lookup ?_)
 show wpAny _ _ (if(some (Value.builtin "NoneType.__hash__")==some Value.none)=true then _ else _) Q E s
 rw [if_neg (by rw [beq_builtin_none];exact Bool.false_ne_true)]
 refine wpAny_bind (wpAny_specialOf hT F.slot_NoneType_hash.lookup ?_)
 show wpAny _ _ (callSpecialIfBoundUnlessNone? .none "__hash__" _ >>= _) Q E s
 refine wpAny_bind (wpAny_callSpecialIfBoundUnlessNone?_slot hT F.slot_NoneType_hash (wpAny_call_entry F.slot_NoneType_hash hT F.entry_NoneType_hash ?_ (F.args_NoneType_hash_1 _)))
 show wpAny _ _ (retInt 0xFCA86420) _ _ s
 refine wpAny_ret_mkInt ?_
 exact wpAny_pure h
mutual
noncomputable def dr:PyData→Nat
 | .tuple xs=>drs xs+1
 | _=>1
noncomputable def drs:List PyData→Nat
 | []=>0
 | x::xs=>dr x+drs xs
end
theorem sR: ∀ (n:Nat) (d:PyData) (v:Value) (as:List Addr) (A:Around) (s:Shared) (Q:Int→Shared→Prop) (E:Value→Shared→Prop),hk d=true→d.depth≤n→Reads s.heap v d as→A.units+n<cLine→Q (hsh d) { s with toks:=s.toks+dr d }→wpAny (model prog w) A (pyHash v) Q E s:=by
 intro n
 induction n with
 | zero=>
  intro d v as A s Q E hd hn hr hu h
  cases hr with
  | none=>exact fW (by simpa [hsh,dr] using h)
  | int i t=>exact wpAny_pyHash_int (by simpa [hsh,dr] using h)
  | bool b=>cases hd
  | str x t=>cases hd
  | list=>cases hd
  | tuple=>simp [PyData.depth] at hn
  | dict=>cases hd
 | succ n ih=>
  intro d v as A s Q E hd hn hr hu h
  cases hr with
  | none=>exact fW (by simpa [hsh,dr] using h)
  | int i t=>exact wpAny_pyHash_int (by simpa [hsh,dr] using h)
  | bool b=>cases hd
  | str x t=>cases hd
  | list=>cases hd
  | dict=>cases hd
  | @tuple a o vs k xs as ho hc hdat hall=>
   have hT:s.TypeIs (.ref a) "tuple":=⟨o,ho,hc⟩
   have hd':hks xs=true:=by simpa [hk] using hd
   have hn':PyData.depthAll xs≤n:=by simp only [PyData.depth] at hn;omega
   unfold pyHash
   unfold pyHashByItsType
   refine wpAny_bind (wpAny_cRoomFor_or (.inr (by omega)) ?_)
   refine wpAny_bind (wpAny_specialOf hT F.slot_tuple_hash.lookup ?_)
   show wpAny _ _ (if(some (Value.builtin "tuple.__hash__")==some Value.none)=true then _ else _) Q E s
   rw [if_neg (by rw [beq_builtin_none];exact Bool.false_ne_true)]
   refine wpAny_bind (wpAny_specialOf hT F.slot_tuple_hash.lookup ?_)
   show wpAny _ _ (callSpecialIfBoundUnlessNone? (.ref a) "__hash__" _ >>= _) Q E s
   refine wpAny_bind (wpAny_callSpecialIfBoundUnlessNone?_slot hT F.slot_tuple_hash (wpAny_call_entry F.slot_tuple_hash hT F.entry_tuple_hash ?_ (F.args_tuple_hash_1 _)))
   show wpAny _ _ (Builtin.Tuple.tupleItemsOf (.ref a) >>= _) _ _ s
   refine wpAny_bind (wpAny_tupleItemsOf ho hdat ?_)
   refine wpAny_bind ?_
   rw [←Array.forIn_toList]
   refine wpAny_forIn_list _
    (fun rest (b:Array Int) s'=> ∃ ds bs tk,ReadsAll s.heap rest ds bs∧hks ds=true∧PyData.depthAll ds≤n∧hshs xs=b.toList++hshs ds∧s.toks+drs xs=tk+drs ds∧s'={ s with toks:=tk })
    _ ?_ ?_ _ _ ⟨xs,as,s.toks,hall,hd',hn',rfl,rfl,rfl⟩
   ·rintro x rest b s' ⟨ds,bs,tk,hra,k1,k2,k3,k4,rfl⟩
    cases hra with
    | @cons _ _ d1 ds1 as1 bs1 r1 r2=>
     simp only [hks,Bool.and_eq_true] at k1
     simp only [PyData.depthAll] at k2
     refine wpAny_bind (ih d1 x as1 _ _ _ _ k1.1 (by omega) r1 (by have:=A.in1_units;omega) ?_)
     have k5:s.toks+drs xs=tk+dr d1+drs ds1:=by rw [k4];simp only [drs];omega
     first
      | exact wpAny_pure ⟨ds1,bs1,_,r2,k1.2,by omega,by rw [k3];simp [hshs],k5,rfl⟩
      | exact wpAny_bind (wpAny_pure (wpAny_pure ⟨ds1,bs1,_,r2,k1.2,by omega,by rw [k3];simp [hshs],k5,rfl⟩))
   ·rintro b s' ⟨ds,bs,tk,hra,k1,k2,k3,k4,rfl⟩
    cases hra
    simp only [hshs,List.append_nil] at k3
    have h':=h
    simp only [hsh,k3,dr,show s.toks+(drs xs+1)=tk+1 from by simp only [drs] at k4;omega] at h'
    show wpAny _ _ (retInt (Builtin.Tuple.tupleHashOf b.toList)) _ _ _
    refine wpAny_ret_mkInt ?_
    show wpAny _ _ (if(decide (-(2:Int) ^ 63≤Builtin.Tuple.tupleHashOf b.toList)&&decide (Builtin.Tuple.tupleHashOf b.toList<2 ^ 63))=true then _ else _) Q E _
    unfold reduceHash at h'
    by_cases hr:(decide (-(2:Int) ^ 63≤Builtin.Tuple.tupleHashOf b.toList)&&decide (Builtin.Tuple.tupleHashOf b.toList<2 ^ 63))=true
    ·rw [if_pos hr]
     rw [if_pos hr] at h'
     exact wpAny_pure h'
    ·rw [if_neg hr]
     rw [if_neg hr] at h'
     exact wpAny_bind (wpAny_rule (wpAny_pure h'))
theorem oR: ∀ (n:Nat) (d:PyData) (v:Value) (as:List Addr) (A:Around) (s:Shared) (Q:Bool→Shared→Prop) (E:Value→Shared→Prop),hk d=true→d.depth≤n→Reads s.heap v d as→Q true s→wpAny (model prog w) A (eqIsQuiet n v) Q E s:=by
 intro n
 induction n with
 | zero=>
  intro d v as A s Q E hd hn hr h
  cases hr with
  | tuple=>simp [PyData.depth] at hn
  | none=>rw [eqIsQuiet_byValue _ rfl];exact wpAny_pure h
  | int i t=>rw [eqIsQuiet_byValue _ rfl];exact wpAny_pure h
  | bool b=>cases hd
  | str x t=>cases hd
  | list=>cases hd
  | dict=>cases hd
 | succ n ih=>
  intro d v as A s Q E hd hn hr h
  cases hr with
  | none=>rw [eqIsQuiet_byValue _ rfl];exact wpAny_pure h
  | int i t=>rw [eqIsQuiet_byValue _ rfl];exact wpAny_pure h
  | bool b=>cases hd
  | str x t=>cases hd
  | list=>cases hd
  | dict=>cases hd
  | @tuple a o vs k xs as ho hc hdat hall=>
   have hT:s.TypeIs (.ref a) "tuple":=⟨o,ho,hc⟩
   have hd':hks xs=true:=by simpa [hk] using hd
   have hn':PyData.depthAll xs≤n:=by simp only [PyData.depth] at hn;omega
   unfold eqIsQuiet
   refine wpAny_bind (wpAny_specialOf hT F.slot_tuple_eq.lookup ?_)
   show wpAny _ _ (isInstance (.ref a) (.type "tuple") >>= _) _ _ s
   refine wpAny_bind (wpAny_isInstance hT isSubtype_tuple_tuple ?_)
   simp only [Bool.not_true,Bool.false_eq_true,if_false]
   refine wpAny_bind (wpAny_seqItems ho hdat ?_)
   refine wpAny_bind ?_
   show wpAny _ _ (forIn vs _ _) _ _ s
   rw [←Array.forIn_toList]
   refine wpAny_forIn_list _ (fun rest r s'=>r.1=none∧s'=s∧ ∃ ds bs,ReadsAll s.heap rest ds bs∧hks ds=true∧PyData.depthAll ds≤n) _ ?_ ?_ _ _ ⟨rfl,rfl,xs,as,hall,hd',hn'⟩
   ·rintro x rest r s' ⟨hr,rfl,ds,bs,hra,k1,k2⟩
    cases hra with
    | @cons _ _ d1 ds1 as1 bs1 r1 r2=>
     simp only [hks,Bool.and_eq_true] at k1
     simp only [PyData.depthAll] at k2
     refine wpAny_bind (ih d1 x as1 _ _ _ _ k1.1 (by omega) r1 ?_)
     simp only [Bool.not_true,Bool.false_eq_true,if_false]
     exact wpAny_pure ⟨rfl,rfl,ds1,bs1,r2,k1.2,by omega⟩
   ·rintro⟨r1,r2⟩ s' ⟨hr,rfl,_⟩
    simp only at hr
    subst hr
    exact wpAny_pure h
end
section
variable {prog:Program} {w:World} {A:Around} {E:Value→Shared→Prop} {s:Shared}
end
def Key (h:Heap) (d:PyData) (v:Value):Prop:=(∃ b,v= .ref b)∧hk d=true∧d.depth≤8∧ ∃ as,Reads h v d as
section
variable {prog:Program} {w:World} {A:Around} {E:Value→Shared→Prop} {s:Shared}
end
mutual
theorem eU: ∀ {x y:D},same x y=true→(flat x).length=(flat y).length
 | .int _,y,h=>by cases y<;>simp [same] at h;rfl
 | .tup xs,y,h=>by
  cases y<;>simp [same] at h
  simp only [flat];exact fX h
 | .non,_,h=>by simp [same] at h
 | .bl _,_,h=>by simp [same] at h
 | .str _,_,h=>by simp [same] at h
 | .lst _,_,h=>by simp [same] at h
 | .exc _,_,h=>by simp [same] at h
 | .fn _,_,h=>by simp [same] at h
theorem fX: ∀ {xs ys:List D},sames xs ys=true→(flats xs).length=(flats ys).length
 | [],[],_=>rfl
 | [],_::_,h=>by simp [sames] at h
 | _::_,[],h=>by simp [sames] at h
 | x::xs,y::ys,h=>by
  simp only [sames,Bool.and_eq_true] at h
  simp only [flats,List.length_append,eU h.1,fX h.2]
end
mutual
theorem oS: ∀ {x y:D},same x y=true→flat x=flat y→x=y
 | .int _,y,h,e=>by cases y<;>simp [same] at h;simpa [flat] using e
 | .tup xs,y,h,e=>by
  cases y<;>simp [same] at h
  simp only [flat] at e
  rw [fY h e]
 | .non,_,h,_=>by simp [same] at h
 | .bl _,_,h,_=>by simp [same] at h
 | .str _,_,h,_=>by simp [same] at h
 | .lst _,_,h,_=>by simp [same] at h
 | .exc _,_,h,_=>by simp [same] at h
 | .fn _,_,h,_=>by simp [same] at h
theorem fY: ∀ {xs ys:List D},sames xs ys=true→flats xs=flats ys→xs=ys
 | [],[],_,_=>rfl
 | [],_::_,h,_=>by simp [sames] at h
 | _::_,[],h,_=>by simp [sames] at h
 | x::xs,y::ys,h,e=>by
  simp only [sames,Bool.and_eq_true] at h
  simp only [flats] at e
  obtain⟨e1,e2⟩:=List.append_inj e (eU h.1)
  rw [oS h.1 e1,fY h.2 e2]
end
mutual
theorem oT: ∀ {x y:D},same x y=true→deq x y=(flat x==flat y)
 | .int i,y,h=>by
  cases y<;>simp [same] at h
  simp [deq,flat]
 | .tup xs,y,h=>by
  cases y<;>simp [same] at h
  simp only [deq,flat];exact fZ h
 | .non,_,h=>by simp [same] at h
 | .bl _,_,h=>by simp [same] at h
 | .str _,_,h=>by simp [same] at h
 | .lst _,_,h=>by simp [same] at h
 | .exc _,_,h=>by simp [same] at h
 | .fn _,_,h=>by simp [same] at h
theorem fZ: ∀ {xs ys:List D},sames xs ys=true→deqs xs ys=(flats xs==flats ys)
 | [],[],_=>rfl
 | [],_::_,h=>by simp [sames] at h
 | _::_,[],h=>by simp [sames] at h
 | x::xs,y::ys,h=>by
  simp only [sames,Bool.and_eq_true] at h
  simp only [deqs,flats,oT h.1,fZ h.2]
  rw [Bool.eq_iff_iff]
  simp only [Bool.and_eq_true,beq_iff_eq]
  constructor
  ·rintro⟨a,b⟩;rw [a,b]
  ·intro e;exact List.append_inj e (eU h.1)
end
mutual
theorem sS: ∀ {x:D},same x x=true→hk (toPy x)=true
 | .int _,_=>by simp [toPy,hk]
 | .tup xs,h=>by
  simp only [toPy,hk];exact i9 (by simpa [same] using h)
 | .non,h=>by simp [same] at h
 | .bl _,h=>by simp [same] at h
 | .str _,h=>by simp [same] at h
 | .lst _,h=>by simp [same] at h
 | .exc _,h=>by simp [same] at h
 | .fn _,h=>by simp [same] at h
theorem i9: ∀ {xs:List D},sames xs xs=true→hks (toPys xs)=true
 | [],_=>by simp [toPys,hks]
 | x::xs,h=>by
  simp only [sames,Bool.and_eq_true] at h
  simp [toPys,hks,sS h.1,i9 h.2]
end
mutual
theorem jZ: ∀ {x:D},same x x=true→plain x=true
 | .int _,_=>by simp [plain]
 | .tup xs,h=>by
  simp only [plain];exact dS (by simpa [same] using h)
 | .non,h=>by simp [same] at h
 | .bl _,h=>by simp [same] at h
 | .str _,h=>by simp [same] at h
 | .lst _,h=>by simp [same] at h
 | .exc _,h=>by simp [same] at h
 | .fn _,h=>by simp [same] at h
theorem dS: ∀ {xs:List D},sames xs xs=true→plains xs=true
 | [],_=>by simp [plains]
 | x::xs,h=>by
  simp only [sames,Bool.and_eq_true] at h
  simp [plains,jZ h.1,dS h.2]
end
mutual
theorem wH: ∀ {x y:D},same x y=true→same y y=true∧same x x=true∧dep y=dep x
 | .int _,y,h=>by cases y<;>simp [same] at h;simp [same,dep]
 | .tup xs,y,h=>by
  cases y<;>simp [same] at h
  simp only [same,dep]
  have:=mG h
  exact⟨this.1,this.2.1,by rw [this.2.2]⟩
 | .non,_,h=>by simp [same] at h
 | .bl _,_,h=>by simp [same] at h
 | .str _,_,h=>by simp [same] at h
 | .lst _,_,h=>by simp [same] at h
 | .exc _,_,h=>by simp [same] at h
 | .fn _,_,h=>by simp [same] at h
theorem mG: ∀ {xs ys:List D},sames xs ys=true→sames ys ys=true∧sames xs xs=true∧deps ys=deps xs
 | [],[],_=>⟨rfl,rfl,rfl⟩
 | [],_::_,h=>by simp [sames] at h
 | _::_,[],h=>by simp [sames] at h
 | x::xs,y::ys,h=>by
  simp only [sames,Bool.and_eq_true] at h
  have a:=wH h.1
  have b:=mG h.2
  simp only [sames,deps,a.1,b.1,a.2.1,b.2.1,a.2.2,b.2.2,Bool.and_self,and_self]
end
mutual
theorem sT: ∀ {x y z:D},same x y=true→same x z=true→same y z=true
 | .int _,y,z,h,k=>by cases y<;>simp [same] at h;cases z<;>simp [same] at k;rfl
 | .tup xs,y,z,h,k=>by
  cases y<;>simp [same] at h
  cases z<;>simp [same] at k
  simp only [same];exact jA h k
 | .non,_,_,h,_=>by simp [same] at h
 | .bl _,_,_,h,_=>by simp [same] at h
 | .str _,_,_,h,_=>by simp [same] at h
 | .lst _,_,_,h,_=>by simp [same] at h
 | .exc _,_,_,h,_=>by simp [same] at h
 | .fn _,_,_,h,_=>by simp [same] at h
theorem jA: ∀ {xs ys zs:List D},sames xs ys=true→sames xs zs=true→sames ys zs=true
 | [],[],[],_,_=>rfl
 | [],_::_,_,h,_=>by simp [sames] at h
 | [],[],_::_,_,h=>by simp [sames] at h
 | _::_,[],_,h,_=>by simp [sames] at h
 | _::_,_::_,[],_,h=>by simp [sames] at h
 | x::xs,y::ys,z::zs,h,k=>by
  simp only [sames,Bool.and_eq_true] at h k ⊢
  exact⟨sT h.1 k.1,jA h.2 k.2⟩
end
section
variable {prog:Program} {w:World}
end
section
variable {O:KeyOrd} {key:Nat→O.α} {n:Nat} {cmp:Nat→Nat→(Bool→Shared→Prop)→Shared→Prop} {s:Shared}
end
theorem hV: ∀ a,lexB a a=false
 | []=>rfl
 | a::r=>by simp [lexB,hV r]
theorem j0: ∀ a b c,lexB a b=true→lexB b c=true→lexB a c=true
 | [],[],_,h,_=>by cases h
 | [],_::_,[],_,h=>by cases h
 | [],_::_,_::_,_,_=>rfl
 | _::_,[],_,h,_=>by cases h
 | _::_,_::_,[],_,h=>by cases h
 | a::r,b::t,c::u,h1,h2=>by
  unfold lexB at h1 h2 ⊢
  by_cases ab:a=b
  ·subst ab
   rw [if_pos rfl] at h1
   by_cases ac:a=c
   ·rw [if_pos ac] at h2 ⊢;exact j0 r t u h1 h2
   ·rw [if_neg ac] at h2 ⊢;exact h2
  ·rw [if_neg ab] at h1
   have h1:=of_decide_eq_true h1
   by_cases bc:b=c
   ·subst bc;rw [if_neg ab];exact decide_eq_true h1
   ·rw [if_neg bc] at h2
    have h2:=of_decide_eq_true h2
    rw [if_neg (by omega)];exact decide_eq_true (by omega)
theorem oU: ∀ a b c,lexB a c=true→lexB a b=true∨lexB b c=true
 | [],[],[],h=>by cases h
 | [],[],_::_,_=> .inr rfl
 | [],_::_,_,_=> .inl rfl
 | _::_,_,[],h=>by cases h
 | _::_,[],_::_,_=> .inr rfl
 | a::r,b::t,c::u,h=>by
  unfold lexB at h ⊢
  by_cases ac:a=c
  ·subst ac
   rw [if_pos rfl] at h
   by_cases ab:a=b
   ·subst ab;rw [if_pos rfl,if_pos rfl];exact oU r t u h
   ·rw [if_neg ab,if_neg (Ne.symm ab)]
    rcases Int.lt_or_gt_of_ne ab with z | z
    ·exact .inl (decide_eq_true z)
    ·exact .inr (decide_eq_true z)
  ·rw [if_neg ac] at h
   have h:=of_decide_eq_true h
   by_cases ab:a=b
   ·subst ab;rw [if_neg ac];exact .inr (decide_eq_true h)
   ·rw [if_neg ab]
    by_cases z:a<b
    ·exact .inl (decide_eq_true z)
    ·rw [if_neg (by omega)];exact .inr (decide_eq_true (by omega))
theorem j4: ∀ a b,lexB a b=false→lexB b a=false→a=b
 | [],[],_,_=>rfl
 | [],_::_,h,_=>by cases h
 | _::_,[],_,h=>by cases h
 | a::r,b::t,h1,h2=>by
  unfold lexB at h1 h2
  by_cases ab:a=b
  ·subst ab
   rw [if_pos rfl] at h1 h2
   rw [j4 r t h1 h2]
  ·rw [if_neg ab] at h1
   rw [if_neg (Ne.symm ab)] at h2
   have h1:=of_decide_eq_false h1
   have h2:=of_decide_eq_false h2
   omega
section
variable {prog:Program} {w:World} {A:Around} {Ex:Value→Shared→Prop} {s:Shared}
mutual
theorem j5 {h h':Heap} (k: ∀ b o,o.cls= .type "tuple"→h.get? b=some o→h'.get? b=some o): ∀ {d:PyData} {v:Value} {as:List Addr},hk d=true→Reads h v d as→Reads h' v d as
 | _,_,_,_, .none=> .none
 | _,_,_,_, .int i t=> .int i t
 | _,_,_,hd, .tuple e c q r=> .tuple (k _ _ c e) c q (bT k (by simpa [hk] using hd) r)
 | _,_,_,hd, .bool _=>by simp [hk] at hd
 | _,_,_,hd, .str _ _=>by simp [hk] at hd
 | _,_,_,hd, .list _ _ _ _=>by simp [hk] at hd
 | _,_,_,hd, .dict _ _ _ _ _=>by simp [hk] at hd
theorem bT {h h':Heap} (k: ∀ b o,o.cls= .type "tuple"→h.get? b=some o→h'.get? b=some o): ∀ {ds:List PyData} {vs:List Value} {as:List Addr},hks ds=true→ReadsAll h vs ds as→ReadsAll h' vs ds as
 | _,_,_,_, .nil=> .nil
 | _,_,_,hd, .cons a b=>by
  simp only [hks,Bool.and_eq_true] at hd
  exact .cons (j5 k hd.1 a) (bT k hd.2 b)
end
end
section
variable {prog:Program} {w:World} {A:Around} {I:Addr} {fp wr:List Addr} {G:Array GenState→Array GenState→Prop} {n:Nat} {P:Nat→Value→Prop} {St:Nat→Shared→Prop} {E:Value→Shared→Prop} {s:Shared} {R:_→Shared→Prop}
end
section
variable {X:Cx} {ad:Ad} {G:Hp}
end
section
variable {prog:Program} {w:World} {A:Around} {E:Value→Shared→Prop} {s:Shared}
end
section
variable {X:Cx} {ad:Ad} {a:Expr} {f:F} {p p2 pos pos2:Pos}
end
noncomputable def iv:Value→Int
 | .int n _=>n
 | _=>0
section
variable {X:Cx} {ad:Ad} {a:Expr} {f:F} {p p2 pos pos2:Pos}
theorem sU {i:Int} {cj:Nat} {cp kp:Pos} (hg:L2.Gl X "max") (hm:X.mg "max"=none) (hh:X.A.handled=none) (ha:ML X ad a f) (he:starEach [a] X.env=(false,eval a X.env)::starEach [] X.env):
  ME X ad (.Call (.Name "max" p) [a] [⟨some "default", .Constant (.int i) cj cp,kp⟩] pos) (rCall (dMaxD i) [f]):=by
 intro pins s σ H Q I ⟨G,ρ,E,hG,hS,hx,hr⟩
 unfold rCall at hr
 rw [cR] at hr
 refine wpAny_Call_Name_kw (bN (u:= .builtin "max") I hg hm (by decide+kernel) ?_ (by decide) (by decide))
 refine callWith_kw (L2.thn (aQ ha bA he pos pins s σ H (fun vs H1=> ∃ v d G1,vs=[v]∧Step G H G1 H1∧Seq X ad G1 H1 d v∧RK X.K ad G1 H1 (dMaxD i [d]) Q E) I ?_) fun us s1 ⟨vs,H1,I1,r1,v,d,G1,e1,st,q,k⟩=> ?_) (by rw [he];rfl) (by rw [he];rfl) rfl rfl
 ·exact gY hG hS hx hr fun v d G1 H1 st q k=>⟨v,d,G1,rfl,st,q,k⟩
 ·subst e1
  obtain⟨u,rfl,ru⟩:=vals1 r1
  refine kws_cons (wpAny_Constant_int (kws_nil ?_))
  show wpAny _ _ (call (.builtin "max") [u] [(Str.ofString "default", .int i s1.toks)]) _ _ { s1 with toks:=s1.toks+1 }
  have I2:Inv X pins σ H1 { s1 with toks:=s1.toks+1 }:=I1.kept (t':=s1.toks+1) (h':=s1.heap) fun _ _ e=>e
  have k':RK X.K ad G1 H1 (match(items d).bind dInts with | some ns=> .ok (.int (maxD i ns)) | none=> .bad) Q E:=k
  cases e:items d with
  | none=>rw [e] at k';exact k'.elim
  | some ds=>
   rw [e] at k'
   have k2:RK X.K ad G1 H1 (match dInts ds with | some ns=> .ok (.int (maxD i ns)) | none=> .bad) Q E:=k'
   cases e2:dInts ds with
   | none=>rw [e2] at k2;exact k2.elim
   | some ns=>
    rw [e2] at k2
    obtain⟨b,vs,rfl,hq,rq⟩:=q.items st.gh e
    have hq':SqL X.K H1 b vs∨SqT X.K H1 b vs:=hq.elim (fun z=> .inr z.2) fun z=> .inl z.2
    cases (show u=Value.ref b from ru)
    have ev:=bR e2 rq
    subst ev
    refine mE (bS (A:=X.A.in1) hh I2 hq' fun its s2 I' fp wr Stt rv W st2 hfp h1 h2 h3 h4 h5=> ?_)
    have hl:its.length=ns.length:=by rw [←rv.length,List.length_map]
    refine⟨I',fp,wr,_,its.length,_,_,fun i=>ns.getD i 0,rfl,W.toS,st2,hfp,fun i v e=>iP rv e,fun z s' m=> ?_,fun z s' t' m=> ?_⟩
    ·have:ns=[]:=List.length_eq_zero_iff.mp (by omega)
     subst this
     exact⟨.int i,H1,I2.moved h5 h4 h1 h2 h3 m,⟨_,rfl⟩,k2.ok_now st.gh aD⟩
    ·cases ns with
     | nil=>rw [List.length_nil] at hl;omega
     | cons n ns=>
      refine⟨.int (maxL n ns),H1,I2.moved h5 h4 h1 h2 h3 m,⟨t', ?_⟩,k2.ok_now st.gh aD⟩
      have e3:((List.range its.length).drop 1).map (fun i=>(n::ns).getD i 0)=ns:=by
       rw [hl,List.length_cons,List.range_succ_eq_map,List.drop_one,List.tail_cons,List.map_map]
       apply List.ext_getElem
       ·simp
       ·intro j h1 h2
        simp [h2]
      rw [e3];rfl
end
section
variable {h h':Heap} {d:Addr} {o:Obj} {es:Array DictEntry} {ep:Nat}
theorem oV (ho:h.get? d=some o) (hd:o.data= .dict es ep) (hs:Heap.SameBut d h h') {a:Addr} {u:Obj} {vs:Array Value} {n:Nat} (hu:h.get? a=some u) (hq:u.data= .seq vs n):h'.get? a=some u:=by
 have ne:a≠d:=fun z=>by
  subst z
  rw [ho] at hu
  cases hu
  rw [hd] at hq
  cases hq
 exact(hs.2 a ne).trans hu
mutual
theorem rk1 (ho:h.get? d=some o) (hd:o.data= .dict es ep) (hs:Heap.SameBut d h h'): ∀ (k:PyData) (v:Value) (as:List Addr),hk k=true→Reads h v k as→Reads h' v k as
 | .none,v,as,_,r=>by cases r;exact .none
 | .int i,v,as,_,r=>by cases r;exact .int _ _
 | .tuple xs,v,as,hk',r=>by
  cases r with
  | tuple h1 h2 h3 h4=>exact .tuple (oV ho hd hs h1 h3) h2 h3 (rk2 ho hd hs xs _ _ (by simpa [hk] using hk') h4)
 | .bool _,_,_,h,_=>by simp [hk] at h
 | .str _,_,_,h,_=>by simp [hk] at h
 | .list _,_,_,h,_=>by simp [hk] at h
 | .dict _,_,_,h,_=>by simp [hk] at h
theorem rk2 (ho:h.get? d=some o) (hd:o.data= .dict es ep) (hs:Heap.SameBut d h h'): ∀ (ks:List PyData) (vs:List Value) (as:List Addr),hks ks=true→ReadsAll h vs ks as→ReadsAll h' vs ks as
 | [],_,_,_,r=>by cases r;exact .nil
 | k::ks,_,_,hk',r=>by
  rw [hks,Bool.and_eq_true] at hk'
  cases r with
  | cons r1 r2=>exact .cons (rk1 ho hd hs k _ _ hk'.1 r1) (rk2 ho hd hs ks _ _ hk'.2 r2)
end
end
mutual
theorem eqvR: ∀ x:PyData,hk x=true→PyData.eqv x x=true
 | .none,_=>by simp [PyData.eqv]
 | .int i,_=>by simp [PyData.eqv]
 | .tuple xs,h=>by
  rw [PyData.eqv]
  exact eqvRs xs (by simpa [hk] using h)
 | .bool _,h=>by simp [hk] at h
 | .str _,h=>by simp [hk] at h
 | .list _,h=>by simp [hk] at h
 | .dict _,h=>by simp [hk] at h
theorem eqvRs: ∀ xs:List PyData,hks xs=true→PyData.eqvAll xs xs=true
 | [],_=>by simp [PyData.eqvAll]
 | x::xs,h=>by
  rw [hks,Bool.and_eq_true] at h
  rw [PyData.eqvAll,eqvR x h.1,eqvRs xs h.2]
  rfl
end
noncomputable instance decPy:DecidableEq PyData:=fun a b=>Classical.propDecidable (a=b)
def KeyA (h:Heap) (d:PyData) (a:Addr):Prop:=hk d=true∧d.depth≤8∧ ∃ as,Reads h (.ref a) d as
noncomputable def nKind (prog:Program) (w:World):HeapKind prog w PyData where
 is:=KeyA
 hash:=hsh
 draws:=dr
 room:=fun A=>A.units+20<cLine
 inj:=fun {h a x y} k1 k2=>by
  obtain⟨a1,_,b1,c1⟩:=k1
  obtain⟨a2,_,b2,c2⟩:=k2
  exact SeqAt.Reads.unique x y _ b1 b2 (i7 _ a1) c1 c2
 keeps:=fun {h h' k a d o es ep} k1 ho hd hs=>by
  obtain⟨a1,a2,b1,c1⟩:=k1
  exact⟨a1,a2,b1,rk1 ho hd hs _ _ _ a1 c1⟩
 pyHash:=fun {A E s k a Q} hu k1 hq=>by
  obtain⟨a1,a2,b1,c1⟩:=k1
  exact sR 8 k _ b1 A s Q E a1 a2 c1 (by omega) hq
 eqBool:=fun {A E s x y a b Q} hu k1 k2 hq=>by
  obtain⟨a1,a2,b1,c1⟩:=k1
  obtain⟨a3,a4,b2,c2⟩:=k2
  have e:=SeqAt.eqAt_reads x y A s (.ref a) (.ref b) b1 b2 c1 c2 (i7 _ a1) (i7 _ a3) (by omega)
  refine e prog w E Q ?_
  by_cases z:x=y
  ·subst z
   rw [decide_eq_true rfl] at hq
   cases q:PyData.eqv x x with
   | true=>exact hq
   | false=>
    have:=eqvR x a1
    rw [this] at q;cases q
  ·rw [decide_eq_false z] at hq
   cases q:PyData.eqv x y with
   | false=>exact hq
   | true=>exact absurd (hU x y a1 a3 q) z
 quiet:=fun {A E s k a Q} k1 hq=>by
  obtain⟨a1,a2,b1,c1⟩:=k1
  exact oR 8 k _ b1 A s Q E a1 a2 c1 hq
mutual
theorem bU: ∀ d:D,hkD d=true→plain d=true
 | .non,_=>by simp [plain]
 | .int _,_=>by simp [plain]
 | .tup xs,h=>by simpa [plain] using eE xs (by simpa [hkD] using h)
 | .bl _,h=>by simp [hkD] at h
 | .str _,h=>by simp [hkD] at h
 | .lst _,h=>by simp [hkD] at h
 | .exc _,h=>by simp [hkD] at h
 | .fn _,h=>by simp [hkD] at h
theorem eE: ∀ ds:List D,hkDs ds=true→plains ds=true
 | [],_=>by simp [plains]
 | d::ds,h=>by
  have h':hkD d=true∧hkDs ds=true:=by simpa [hkDs] using h
  simp [plains,bU d h'.1,eE ds h'.2]
end
mutual
theorem eF: ∀ d:D,hkD d=true→hk (toPy d)=true∧hsh (toPy d)=hD d
 | .non,_=>by simp [toPy,hk,hsh,hD]
 | .int _,_=>by simp [toPy,hk,hsh,hD]
 | .tup xs,h=>by
  have:=mH xs (by simpa [hkD] using h)
  simp [toPy,hk,hsh,hD,this.1,this.2]
 | .bl _,h=>by simp [hkD] at h
 | .str _,h=>by simp [hkD] at h
 | .lst _,h=>by simp [hkD] at h
 | .exc _,h=>by simp [hkD] at h
 | .fn _,h=>by simp [hkD] at h
theorem mH: ∀ ds:List D,hkDs ds=true→hks (toPys ds)=true∧hshs (toPys ds)=hDs ds
 | [],_=>by simp [toPys,hks,hshs,hDs]
 | d::ds,h=>by
  have h':hkD d=true∧hkDs ds=true:=by simpa [hkDs] using h
  have h1:=eF d h'.1
  have h2:=mH ds h'.2
  simp [toPys,hks,hshs,hDs,h1.1,h1.2,h2.1,h2.2]
end
theorem dU {k:D} (h:keyOk k=true):isTup0 k=true∧hkD k=true∧dep k≤8:=by
 simp only [keyOk,Bool.and_eq_true,decide_eq_true_eq] at h
 exact⟨h.1.1,h.1.2,h.2⟩
theorem jB {k l:D} (h1:keyOk k=true) (h2:keyOk l=true):deq k l=decide (toPy k=toPy l):=by
 have a1:=(dU h1).2.1
 have a2:=(dU h2).2.1
 rw [←bZ k l (bU k a1) (bU l a2)]
 by_cases z:toPy k=toPy l
 ·rw [decide_eq_true z,z];exact eqvR _ (eF l a2).1
 ·rw [decide_eq_false z]
  refine Bool.eq_false_iff.mpr fun q=>z (hU _ _ (eF k a1).1 (eF l a2).1 q)
noncomputable def mkE (x:Int×Addr×Value):DictEntry:=⟨x.1, .ref x.2.1,x.2.2⟩
noncomputable def y3 (p:D×D) (x:Int×Addr×Value):PyData×Addr×Value:=(toPy p.1,x.2.1,x.2.2)
abbrev RX (p:Int×Addr×V) (q:Int×Addr×Value):Prop:=p.1=q.1∧p.2.1=q.2.1∧RelV p.2.2 q.2.2
noncomputable def putE (kvs:List (D×D)) (es:List (Int×Addr×V)) (k:D) (b:Addr) (v:V):List (Int×Addr×V):=
 if hasK kvs k then List.zipWith (fun p e=>if deq p.1 k then(e.1,e.2.1,v) else e) kvs es else es++[(hD k,b,v)]
noncomputable def putX (kvs:List (D×D)) (xs:List (Int×Addr×Value)) (k:D) (b:Addr) (u:Value):List (Int×Addr×Value):=
 if hasK kvs k then List.zipWith (fun p e=>if deq p.1 k then(e.1,e.2.1,u) else e) kvs xs else xs++[(hD k,b,u)]
section
variable {K:PySem.W.Frag} {ad:Ad} {G:Hp} {prog:Program} {w:World}
theorem mI {kvs:List (D×D)} {es:List (Int×Addr×V)} (h:DL K ad G kvs es):kvs.length=es.length:=Paired.length h
theorem wI {k d:D} {b:Addr} {v:V} (hk:Rep K ad G k (.ref b)) (hd:Rep K ad G d v) {kvs:List (D×D)} {es:List (Int×Addr×V)} (h:DL K ad G kvs es):DL K ad G (putK kvs k d) (putE kvs es k b v):=by
 unfold putK putE
 split
 ·have go: ∀ {kvs:List (D×D)} {es:List (Int×Addr×V)},DL K ad G kvs es→DL K ad G (kvs.map (fun p=>if deq p.1 k then(p.1,d) else p)) (List.zipWith (fun p e=>if deq p.1 k then(e.1,e.2.1,v) else e) kvs es):=by
   intro kvs es h
   induction h with
   | nil=>exact .nil
   | @cons p q _ _ r _ ih=>
    refine .cons ?_ ih
    dsimp only
    by_cases z:deq p.1 k=true
    ·rw [if_pos z,if_pos z];exact⟨r.1,r.2.1,hd⟩
    ·rw [if_neg z,if_neg z];exact r
  exact go h
 ·exact Paired.snoc h ⟨rfl,hk,hd⟩
theorem j6 {kvs:List (D×D)} {k:D} (h: ¬ hasK kvs k=true): ∀ p∈kvs,deq p.1 k=false:=fun p hp=>by
 refine Bool.eq_false_iff.mpr fun z=>h ?_
 unfold hasK
 exact List.any_eq_true.mpr ⟨p,hp,z⟩
theorem mJ {kvs:List (D×D)} {k d:D} (h:KOk kvs) (hk:keyOk k=true):KOk (putK kvs k d):=by
 unfold putK
 split
 ·have e: ∀ p:D×D,(if deq p.1 k then(p.1,d) else p).1=p.1:=fun p=>by split<;>rfl
  refine⟨fun p hp=> ?_, ?_⟩
  ·obtain⟨q,hq,rfl⟩:=List.mem_map.mp hp
   rw [e];exact h.1 q hq
  ·refine List.pairwise_map.mpr (h.2.imp fun {p q} z=> ?_)
   rw [e,e];exact z
 ·rename_i hn
  refine⟨fun p hp=> ?_,List.pairwise_append.mpr ⟨h.2,List.pairwise_singleton _ _,fun p hp q hq=> ?_⟩⟩
  ·rcases List.mem_append.mp hp with z | z
   ·exact h.1 p z
   ·rw [List.mem_singleton.mp z];exact hk
  ·rw [List.mem_singleton.mp hq];exact j6 hn p hp
theorem wJ {k:D} {b:Addr} {v:V} {u:Value} (r:RelV v u) (kvs:List (D×D)) {es:List (Int×Addr×V)} {xs:List (Int×Addr×Value)} (h:Paired RX es xs):Paired RX (putE kvs es k b v) (putX kvs xs k b u):=by
 unfold putE putX
 split
 ·have go: ∀ {es:List (Int×Addr×V)} {xs:List (Int×Addr×Value)},Paired RX es xs→ ∀ kvs:List (D×D),Paired RX (List.zipWith (fun p e=>if deq p.1 k then(e.1,e.2.1,v) else e) kvs es) (List.zipWith (fun p e=>if deq p.1 k then(e.1,e.2.1,u) else e) kvs xs):=by
   intro es xs h
   induction h with
   | nil=>intro kvs;cases kvs<;>exact .nil
   | @cons p q _ _ r' _ ih=>
    intro kvs
    cases kvs with
    | nil=>exact .nil
    | cons c kvs=>
     refine .cons ?_ (ih kvs)
     dsimp only
     by_cases z:deq c.1 k=true
     ·rw [if_pos z,if_pos z];exact⟨r'.1,r'.2.1,r⟩
     ·rw [if_neg z,if_neg z];exact r'
  exact go h kvs
 ·exact Paired.snoc h ⟨rfl,rfl,r⟩
abbrev HX (p:D×D) (x:Int×Addr×Value):Prop:=x.1=hD p.1
theorem wK {kvs:List (D×D)} {es:List (Int×Addr×V)} {xs:List (Int×Addr×Value)} (hd:DL K ad G kvs es) (hx:Paired RX es xs):Paired HX kvs xs:=by
 induction hd generalizing xs with
 | nil=>cases hx;exact .nil
 | cons r _ ih=>
  cases hx with
  | cons r2 hx=>exact .cons (by show _=_;rw [←r2.1,r.1]) (ih hx)
theorem wL {kvs:List (D×D)} {xs:List (Int×Addr×Value)} {k d:D} {b:Addr} {u:Value} (h:Paired HX kvs xs):Paired HX (putK kvs k d) (putX kvs xs k b u):=by
 unfold putK putX
 split
 ·have go: ∀ {kvs:List (D×D)} {xs:List (Int×Addr×Value)},Paired HX kvs xs→Paired HX (kvs.map (fun p=>if deq p.1 k then(p.1,d) else p)) (List.zipWith (fun p e=>if deq p.1 k then(e.1,e.2.1,u) else e) kvs xs):=by
   intro kvs xs h
   induction h with
   | nil=>exact .nil
   | @cons p q _ _ r _ ih=>
    refine .cons ?_ ih
    dsimp only
    by_cases z:deq p.1 k=true
    ·rw [if_pos z,if_pos z];exact r
    ·rw [if_neg z,if_neg z];exact r
  exact go h
 ·exact Paired.snoc h rfl
theorem qG {kvs:List (D×D)} {xs:List (Int×Addr×Value)} (h:Paired HX kvs xs) (hk: ∀ p∈kvs,keyOk p.1=true):(List.zipWith y3 kvs xs).map (entryOfKey (nKind prog w))=xs.map mkE:=by
 induction h with
 | nil=>rfl
 | @cons p x _ _ r _ ih=>
  show _::_=_::_
  rw [ih fun p hp=>hk p (.tail _ hp)]
  congr 1
  show(⟨hsh (toPy p.1), .ref x.2.1,x.2.2⟩:DictEntry)=⟨x.1, .ref x.2.1,x.2.2⟩
  rw [(eF p.1 (dU (hk p (.head _))).2.1).2, ←r]
theorem sV {h:Heap} {kvs:List (D×D)} {es:List (Int×Addr×V)} {xs:List (Int×Addr×Value)} (hr: ∀ k b,keyOk k=true→Rep K ad G k (.ref b)→KeyA h (toPy k) b) (hd:DL K ad G kvs es) (hx:Paired RX es xs) (hk: ∀ p∈kvs,keyOk p.1=true):
  (∀ y∈List.zipWith y3 kvs xs,KeyA h y.1 y.2.1)∧(List.zipWith y3 kvs xs).map (·.1)=kvs.map fun p=>toPy p.1:=by
 induction hd generalizing xs with
 | nil=>cases hx;exact⟨fun y hy=>by simp at hy,rfl⟩
 | @cons p q _ _ r _ ih=>
  cases hx with
  | @cons _ x _ xs r2 hx=>
   obtain⟨i2,i3⟩:=ih hx fun p hp=>hk p (.tail _ hp)
   have kp:=hk p (.head _)
   refine⟨fun y hy=> ?_, ?_⟩
   ·rcases List.mem_cons.mp hy with rfl | hy
    ·have:=hr p.1 q.2.1 kp r.2.1
     rw [r2.2.1] at this
     exact this
    ·exact i2 y hy
   ·show _::_=_::_
    rw [i3]
    rfl
theorem wM {kvs:List (D×D)} {xs:List (Int×Addr×Value)} {k:D} (hk:keyOk k=true) (hl:kvs.length=xs.length) (ha: ∀ p∈kvs,keyOk p.1=true):(atKey (List.zipWith y3 kvs xs) (toPy k)).isSome=hasK kvs k:=by
 unfold atKey hasK
 rw [Option.isSome_map]
 induction kvs generalizing xs with
 | nil=>rfl
 | cons p kvs ih=>
  cases xs with
  | nil=>cases hl
  | cons x xs=>
   have i:=ih (xs:=xs) (by simpa using hl) fun p hp=>ha p (.tail _ hp)
   show((y3 p x::List.zipWith y3 kvs xs).find? _).isSome=_
   rw [List.find?_cons,List.any_cons,jB (ha p (.head _)) hk]
   show Option.isSome (match decide (toPy p.1=toPy k) with | true=>some (y3 p x) | false=>_)=_
   cases decide (toPy p.1=toPy k) with
   | true=>rfl
   | false=>exact i
theorem wN {kvs:List (D×D)} {xs:List (Int×Addr×Value)} {k d:D} {b:Addr} {u:Value} (hk:keyOk k=true) (hl:kvs.length=xs.length) (ha: ∀ p∈kvs,keyOk p.1=true):
  storedH (List.zipWith y3 kvs xs) (toPy k) b u=List.zipWith y3 (putK kvs k d) (putX kvs xs k b u):=by
 unfold storedH putK putX
 rw [wM hk hl ha]
 by_cases z:hasK kvs k=true
 ·rw [if_pos z,if_pos z,if_pos z]
  clear z
  induction kvs generalizing xs with
  | nil=>rfl
  | cons p kvs ih=>
   cases xs with
   | nil=>cases hl
   | cons x xs=>
    have i:=ih (xs:=xs) (by simpa using hl) fun p hp=>ha p (.tail _ hp)
    show putAt (toPy k) u (y3 p x)::_=y3 _ _::_
    rw [i]
    congr 1
    unfold putAt
    have e:=jB (ha p (.head _)) hk
    by_cases q:toPy p.1=toPy k
    ·rw [decide_eq_true q] at e
     have e1:(if(y3 p x).1=toPy k then((y3 p x).1,(y3 p x).2.1,u) else y3 p x)=((y3 p x).1,(y3 p x).2.1,u):=if_pos q
     rw [e1]
     dsimp only
     rw [if_pos e,if_pos e]
     rfl
    ·rw [decide_eq_false q] at e
     have e1:(if(y3 p x).1=toPy k then((y3 p x).1,(y3 p x).2.1,u) else y3 p x)=y3 p x:=if_neg q
     have e': ¬ deq p.1 k=true:=by rw [e];exact Bool.false_ne_true
     rw [e1]
     dsimp only
     rw [if_neg e',if_neg e']
 ·rw [if_neg z,if_neg z,if_neg z,List.zipWith_append hl]
  rfl
end
section
variable {X:Cx} {ad:Ad} {Z:(St→Nat→Hp→Prop)→Prop} {pins:List (Addr×Obj)} {s:Shared} {σ:St} {H G G₀:Hp} {ρ:Rho} {D':Ends} {E:St→Nat→Hp→Prop} {pos pos':Pos} {e:Expr} {f:F} {g h:FS} {st:Stmt} {sts:List Stmt}
theorem _root_.L2.Inv.big (I:Inv X pins σ H s):(s.heap.objs.size==sysModules)=false:=by
 obtain⟨o,_,_,ho,_⟩:=I.mod.glob
 have h:=Heap.lt_size (I.bk _ _ ho)
 have e:mainGlobals=3:=rfl
 have e2:sysModules=1:=rfl
 rw [e] at h
 rw [e2]
 exact beq_false_of_ne (fun z:s.heap.objs.size=1=>by have h2:(3:Nat)<s.heap.objs.size:=h;rw [z] at h2;exact absurd h2 (by decide))
theorem qH {h:Heap} {a:Addr} {es:Nat×List (Int×Addr×V)} (d:DcAt h a es):ObjOk X.prog X.w H h a (dcO a es):=by
 refine⟨d, ?_,fun h1 h2 d k=> ?_⟩
 ·obtain⟨_,_,o,_,_,ho,_⟩:=d
  exact⟨o,ho⟩
 ·obtain⟨z,l,o,ar,xs,ho,r⟩:=d
  exact⟨z,l,o,ar,xs,k _ ho,r⟩
noncomputable def tD0:TE:=fun _ H Q=> ∀ p,H p=none→Q (.ref p) (upd H p (dcO p (0,[])))
theorem oW:PE X (.Dict [] [] pos) tD0:=by
 intro pins s σ H Q I hq
 refine wpAny_Dict_empty ?_
 have hf:H s.heap.objs.size=none:=I.hok.fresh (Nat.le_refl _)
 refine⟨.ref s.heap.objs.size,upd H s.heap.objs.size (dcO s.heap.objs.size (0,[])),I.laid (t':=s.toks) (fun b u e=>Heap.get?_push_of_some _ e) (Nat.le_refl _) (qH ?_),rfl,hq _ hf⟩
 exact⟨I.big,by decide,_, #[],[],Heap.get?_push_size _ rfl,⟨rfl,rfl,rfl⟩,rfl,rfl, .nil⟩
theorem sW {i:Nat} {x:Str} {p:Pos} (hN:X.N.Nodup) (hi:X.N[i]? =some x) (hx:Loc X.env.scope x) (hs:swapsWith (.Dict [] [] p) (some (.Name x pos')) pos.line X.env=pure false) (hf:X.fn x=true∨X.env.scope.names.lookup x=some .local):
  MS X ad Z (.Assign [.Name x pos'] (.Dict [] [] p) pos) (sDNew i):=by
 refine PS.imp (iE hN hi hx oW hs hf) ?_
 rintro D' σ H ⟨G₀,G,ρ,E,S,hx,hr⟩
 exact fun q n=>hr _ G _ (S.setNew (Step.own S.st.gh n) n ⟨q,(0,[]),rfl,S.st.gh.free n,aE, .nil,fun p hp=>by simp at hp, .nil⟩)
theorem jC {k:D} {b:Addr} (I:Inv X pins σ H s) (hG:Same G H) (hk:keyOk k=true) (r:Rep X.K ad G k (.ref b)):KeyA s.heap (toPy k) b:=by
 obtain⟨h1,h2,h3⟩:=dU hk
 obtain⟨as,q⟩:=aV I hG (bU k h2) r (u:= .ref b) rfl
 exact⟨(eF k h2).1,by rw [cN];exact h3,as,q⟩
theorem mK {a:Addr} {es:Nat×List (Int×Addr×V)} {kvs:List (D×D)} (I:Inv X pins σ H s) (hG:Same G H) (ha:H a=some (dcO a es)) (hd:DR X.K ad G kvs es) (hk:KOk kvs):
  (a==sysModules)=false∧es.2.length≤200000∧ ∃ xs,Paired RX es.2 xs∧s.heap.DictOfH (nKind X.prog X.w) a (List.zipWith y3 kvs xs):=by
 obtain⟨⟨z,l,o,ar,xs,ho,he,hdat,hl,hx⟩,_,_⟩:=I.hok a _ ha
 obtain⟨o2,o3⟩:=sV (h:=s.heap) (fun k b h1 h2=>jC I hG h1 h2) hd hx hk.1
 refine⟨z,l,xs,hx,o,ar,es.1,ho,he,hdat, ?_,o2, ?_⟩
 ·rw [hl,qG (wK hd hx) hk.1];rfl
 ·rw [o3]
  refine List.pairwise_map.mpr ?_
  have:=hk.2
  refine List.Pairwise.imp_of_mem ?_ this
  intro p q hp hq hn e
  rw [jB (hk.1 p hp) (hk.1 q hq),decide_eq_true e] at hn
  cases hn
noncomputable def rSetD (K:PySem.W.Frag) (ad:Ad):V→V→V→Hp→(Hp→Prop)→Prop:=fun o i v H Q=> ∃ a es b k G kvs,o= .ref a∧i= .ref b∧H a=some (dcO a es)∧Same G H∧DR K ad G kvs es∧KOk kvs∧Rep K ad G k (.ref b)∧keyOk k=true∧kvs.length<LIM∧ ∀ n,Q (upd H a (dcO a (n,putE kvs es.2 k b v)))
theorem oX {kvs:List (D×D)} {es:List (Int×Addr×V)} {k:D} {b:Addr} {v:V}:(putE kvs es k b v).length≤es.length+1:=by
 unfold putE
 split
 ·rw [List.length_zipWith];omega
 ·simp
theorem oY (hu:X.A.units+62<cLine):PSet X (rSetD X.K ad):=by
 intro pins s σ H o i v ov iv u Q I ro ri rv h
 obtain⟨a,es,b,k,G,kvs,rfl,rfl,ha,hG,hd,hko,rk,hk,hl,q⟩:=h
 cases ro
 cases ri
 obtain⟨hz,hln,xs,hx,hm⟩:=mK I hG ha hd hko
 have hlen:kvs.length=xs.length:=(mI hd).trans (Paired.length hx)
 have hle:=mI hd
 have hlim:LIM=100000:=rfl
 refine wpAny_mono (wpAny_setItem_heap (knd:=nKind X.prog X.w) (show X.A.in1.units+20<cLine by have:=X.A.in1_units;omega) (jC I hG hk rk) hm (fun h' hm' hs=> ?_) (by rw [List.length_zipWith];exact Nat.le_trans (Nat.min_le_left _ _) (Nat.le_trans (Nat.le_of_lt hl) (by decide)))) (fun _ _ z=>z) fun _ _ z=>z
 rw [wN (d:= .non) hk hlen hko.1] at hm'
 obtain⟨o',ar',ep',ho',he',hdat',hl',_⟩:=hm'
 refine⟨_,I.write (x:=a) (e:=a) (t':=_) (by rw [ha];trivial) (.inl rfl) (fun c u' hc qc=>(hs.2 c hc).trans qc) ⟨_,ho'⟩ (qH ?_),q ep'⟩
 have hx':=wJ (k:=k) (b:=b) rv kvs hx
 refine⟨hz,by have:= @oX kvs es.2 k b v;show(putE kvs es.2 k b v).length≤200000;omega,o',ar',_,ho',he',hdat', ?_,hx'⟩
 rw [hl',qG (wL (wK hd hx)) (mJ hko hk).1]
 rfl
end
section
variable {X:Cx} {ad:Ad} {Z:(St→Nat→Hp→Prop)→Prop} {pins:List (Addr×Obj)} {s:Shared} {σ:St} {H G G₀:Hp} {ρ:Rho} {D':Ends} {E:St→Nat→Hp→Prop} {pos pos':Pos} {e:Expr} {f:F} {g h:FS} {st:Stmt} {sts:List Stmt}
noncomputable def rSetB (K:PySem.W.Frag) (ad:Ad):V→V→V→Hp→(Hp→Prop)→Prop:=fun o i v H Q=>rSetL o i v H Q∨rSetD K ad o i v H Q
theorem oZ (hu:X.A.units+62<cLine):PSet X (rSetB X.K ad):=fun pins s σ H o i v ov iv u Q I ro ri rv h=>
 h.elim (iG pins s σ H o i v ov iv u Q I ro ri rv) (oY hu pins s σ H o i v ov iv u Q I ro ri rv)
theorem eV {k:D} {v:V} (hk:keyOk k=true) (r:Rep X.K ad G k v): ∃ b,v= .ref b:=by
 have h:=(dU hk).1
 cases k<;>try (cases h;done)
 unfold Rep at r
 obtain⟨a,_,rfl,_⟩:=r
 exact⟨a,rfl⟩
theorem wO {i:Nat} {x:Str} {p tp:Pos} {kx:Expr} {fk:F} (hu:X.A.units+62<cLine) (hN:X.N[i]? =some x) (hv:Vis X.env.scope x) (hd:(x==("__debug__":Str))=false) (hcd:(x==("__classdict__":Str))=false) (he:ME X ad e f) (hk:ME X ad kx fk)
  (ha: ∀ v,assign (.Subscript (.Name x p) kx tp) X.env v=(do
   let ov←holding [v] (eval (.Name x p) X.env)
   let iv←holding [v,ov] (eval kx X.env)
   standAt tp
   holding [v,ov,iv] (setItem ov iv v)
   release [v,ov,iv] [])) (hs:swapsWithSole [.Subscript (.Name x p) kx tp] e pos.line X.env=pure false) (hw:swappedStores [.Subscript (.Name x p) kx tp] e X.env=pure none):
  MS X ad Z (.Assign [.Subscript (.Name x p) kx tp] e pos) (sPut i fk f):=by
 refine PS.imp (pO he (uW (aS hN hv hd hcd) hk (oZ (ad:=ad) hu) ha) hs hw rfl) ?_
 rintro D' σ H ⟨G₀,G,ρ,E,S,hx,hr⟩
 unfold sPut at hr
 refine aT S hx hr fun v d G1 H1 st r k=> ?_
 cases q:ρ[i]? with
 | none=>rw [q] at k;exact k.elim
 | some sl=>
  rw [q] at k
  cases sl with
  | no=>exact k.elim
  | sh d=>exact k.elim
  | sd d=>exact k.elim
  | ow xs=>
   obtain⟨a,vs,h1,h2,h3,h4⟩:=(S.step st).sl.ow q
   refine⟨.ref a,h1, ?_⟩
   refine aT (S.step st) hx k fun v2 y G2 H2 st2 r2 k2=> ?_
   obtain⟨g2,h2'⟩:=aP st2 h2 h3
   cases y<;>try exact False.elim k2
   rename_i j
   unfold Rep at r2;subst r2
   have k':OKo X ad G₀ (match ixD xs.length j with | some m=> .nx (ρ.set i (.ow (xs.set m d))) | none=> .rt .bad) D' E:=k2
   cases q2:ixD xs.length j with
   | none=>rw [q2] at k';exact k'.elim
   | some m=>
    rw [q2] at k'
    have r4:=h4.mono st2.sg
    refine .inl ⟨a,vs,j,m,rfl,rfl,h2',by rw [h4.length, ←iM];exact q2, ?_⟩
    exact k' σ G2 _ (((S.step st).step st2).upd q h1 g2 (Reps.set (r.mono st2.sg) m r4))
  | dc kvs=>
   obtain⟨a,es,h1,h2,h3,h4,h5⟩:=(S.step st).sl.dc q
   refine⟨.ref a,h1, ?_⟩
   refine aT (S.step st) hx k fun v2 y G2 H2 st2 r2 k2=> ?_
   have S2:=(S.step st).step st2
   obtain⟨a',es',h1',h2',h3',h4',h5'⟩:=S2.sl.dc q
   have ea:a'=a:=by rw [h1] at h1';cases h1';rfl
   subst ea
   have k':OKo X ad G₀ (if(keyOk y&&decide (kvs.length<LIM))=true then .nx (ρ.set i (.dc (putK kvs y d))) else .rt .bad) D' E:=k2
   by_cases hc:(keyOk y&&decide (kvs.length<LIM))=true
   ·rw [if_pos hc] at k'
    rw [Bool.and_eq_true,decide_eq_true_eq] at hc
    obtain⟨b,rfl⟩:=eV hc.1 r2
    refine .inr ⟨a',es',b,y,G2,kvs,rfl,rfl,h3',st2.gh,h4',h5',r2,hc.1,hc.2, ?_⟩
    exact fun n=>k' σ G2 _ (S2.updG q rfl h1 ⟨a',_,rfl,h2',aE,wI r2 (r.mono st2.sg) h4',mJ h5' hc.1⟩)
   ·rw [if_neg hc] at k'
    exact k'.elim
theorem RK.bool_share {a:Addr} {vs:List V} {r:R} {Q:VK} {E:Nat→Hp→Prop} (hb:(∃ b,r= .ok (.bl b))∨r= .bad) (g:G a=none) (k:RK X.K ad G H r Q E):RK X.K ad (upd G a (.lst vs)) H r Q E:=by
 rcases hb with ⟨b,rfl⟩ | rfl
 ·intro v G1 H1 st q
  have q':v= .bl b:=by unfold Rep at q;exact q
  subst q'
  refine k (.bl b) (fun c=>if c=a then none else G1 c) H1 ⟨fun c u e=> ?_,fun c u e=> ?_,st.sh,fun c e1 e2=> ?_⟩ aG
  ·have ne:c≠a:=aH e g
   show(if c=a then none else G1 c)=some u
   rw [if_neg ne]
   exact st.sg c u (by rw [aA ne];exact e)
  ·have e':(if c=a then none else G1 c)=some u:=e
   by_cases z:c=a
   ·rw [if_pos z] at e';cases e'
   ·rw [if_neg z] at e';exact st.gh c u e'
  ·have e':(if c=a then none else G1 c)≠none:=e2
   by_cases z:c=a
   ·rw [if_pos z] at e';exact absurd rfl e'
   ·rw [if_neg z] at e';exact st.nw c (by rw [aA z];exact e1) e'
 ·exact k
theorem hW {op:CmpOp} {x y:D} {v w:V} {u z:Value} {Q:VK} {E:Nat→Hp→Prop} (hu:X.A.units+62<cLine) (I:Inv X pins σ H s) (hG:Same G H) (qx:Seq X ad G H x v) (qy:Seq X ad G H y w) (ru:RelV v u) (rz:RelV w z)
  (k:RK X.K ad G H (dCmp op x y) Q E):wpAny (model X.prog X.w) X.A (compareOp op u z) (EP X pins σ Q) X.xe s:=by
 have hb:=kT (op:=op) (x:=x) (y:=y)
 -- the left one is shared for the time
 have sh: ∀ {G:Hp} {a:Addr} {vs:List V} {ds:List D},Same G H→H a=some (.lst vs)→Reps X.K ad G ds vs→Same (upd G a (.lst vs)) H∧Rep X.K ad (upd G a (.lst vs)) (.lst ds) (.ref a):=fun {G a vs ds} hG h2 h3=>by
  have st:G a=none∨G a=some (.lst vs):=by
   cases q:G a with
   | none=>exact .inl rfl
   | some o=>rw [hG a o q] at h2;exact .inr h2
  have le:Same G (upd G a (.lst vs)):=fun b o e=>by
   by_cases zb:b=a
   ·subst zb
    rcases st with q | q
    ·rw [q] at e;cases e
    ·rw [aE, ←q];exact e
   ·rw [aA zb];exact e
  refine⟨fun b o e=> ?_, ?_⟩
  ·by_cases zb:b=a
   ·subst zb;rw [aE] at e;cases e;exact h2
   ·rw [aA zb] at e;exact hG b o e
  ·unfold Rep
   exact⟨a,vs,rfl,SqL.of aE,h3.mono le⟩
 have mo: ∀ {G:Hp} {a:Addr} {vs:List V},G a=none→Same G (upd G a (.lst vs)):=fun g=>Same.upd_new g
 have right: ∀ {G:Hp},Same G H→Rep X.K ad G x v→Seq X ad G H y w→RK X.K ad G H (dCmp op x y) Q E→wpAny (model X.prog X.w) X.A (compareOp op u z) (EP X pins σ Q) X.xe s:=fun {G} hG rx qy k=>by
  rcases qy with ry | ⟨a,vs,ds,rfl,rfl,g1,h2,h3⟩
  ·exact cD op hu pins s σ H G x y v w u z Q E I hG rx ry ru rz k
  ·obtain⟨s1,s2⟩:=sh hG h2 h3
   exact cD op hu pins s σ H _ x _ v _ u z Q E I s1 (rx.mono (mo g1)) s2 ru rz (k.bool_share hb g1)
 rcases qx with rx | ⟨a,vs,ds,rfl,rfl,g1,h2,h3⟩
 ·exact right hG rx qy k
 ·obtain⟨s1,s2⟩:=sh hG h2 h3
  refine right s1 s2 ?_ (k.bool_share hb g1)
  rcases qy with ry | ⟨a',vs',ds',rfl,rfl,g1',h2',h3'⟩
  ·exact .inl (ry.mono (mo g1))
  ·by_cases za:a'=a
   ·subst za
    rw [h2] at h2'
    cases h2'
    refine .inl ?_
    unfold Rep
    exact⟨a',vs,rfl,SqL.of aE,h3'.mono (mo g1)⟩
   ·exact .inr ⟨a',vs',ds',rfl,rfl,by rw [aA za];exact g1',h2',h3'.mono (mo g1)⟩
theorem mL {op:CmpOp} {a b:Expr} {f g:F} {Q:VK} {E:Nat→Hp→Prop} (hu:X.A.units+62<cLine) (ha:MLk X ad a f) (hb:MLk X ad b g) (I:Inv X pins σ H s) (hG:Same G H) (hS:SL X.K ad G H ρ σ) (hx:XP X ad σ E) (hr:RK X.K ad G H (rCmp op f g ρ) Q E):
  wpAny (model X.prog X.w) X.A (eval a X.env) (fun u s1=>wpAny (model X.prog X.w) X.A (eval b X.env) (fun z s2=>wpAny (model X.prog X.w) X.A (compareOp op u z) (EP X pins σ Q) X.xe s2) X.xe s1) X.xe s:=by
 refine L2.thn (ha pins s σ H G ρ (fun x=>(g ρ).bind fun y=>dCmp op x y) Q E I hG hS hx hr) fun u s1 hz1=> ?_
 obtain⟨v,d1,G1,H1,I1,r1,st1,q1,k1⟩:=hz1
 refine L2.thn (hb pins s1 σ H1 G1 ρ (fun y=>dCmp op d1 y) Q E I1 st1.gh (hS.step st1) hx k1) fun z s2 hz2=> ?_
 obtain⟨w,d2,G2,H2,I2,r2,st2,q2,k2⟩:=hz2
 exact hW hu I2 st2.gh (Seq.step q1 st2) q2 r1 r2 k2
theorem sX {op:CmpOp} {a b:Expr} {f g:F} (hu:X.A.units+62<cLine) (ha:MLk X ad a f) (hb:MLk X ad b g) (hm:behindInMarks op b=false):ME X ad (.Compare a [op] [b] pos) (rCmp op f g):=by
 intro pins s σ H Q I ⟨G,ρ,E,hG,hS,hx,hr⟩
 exact wpAny_Compare1 (mL hu ha hb I hG hS hx hr) hm
theorem jD {op:CmpOp} {a b:Expr} {F':F} (hm:behindInMarks op b=false)
  (go: ∀ {pins:List (Addr×Obj)} {s:Shared} {σ:St} {H G:Hp} {ρ:Rho} {Q:VK} {E:Nat→Hp→Prop},Inv X pins σ H s→Same G H→SL X.K ad G H ρ σ→XP X ad σ E→RK X.K ad G H (F' ρ) Q E→
   wpAny (model X.prog X.w) X.A (eval a X.env) (fun u s1=>wpAny (model X.prog X.w) X.A (eval b X.env) (fun z s2=>wpAny (model X.prog X.w) X.A (compareOp op u z) (EP X pins σ Q) X.xe s2) X.xe s1) X.xe s):MT X ad (.Compare a [op] [b] pos) F':=by
 intro pins s σ H Q I ⟨G,ρ,E,hG,hS,hx,ht,hr⟩
 refine wpAny_isTrue_Compare1 (L2.thn (go I hG hS hx hr) fun v s1 h1=>L2.thn h1 fun u s2 h2=>L2.thn h2 fun c s3 hz=> ?_) hm
 obtain⟨x,H1,I1,r1,k,e,q⟩:=hz
 subst e
 cases r1
 exact wpAny_truthy_bool ⟨H1,I1,q⟩
theorem sY {op:CmpOp} {a b:Expr} {f g:F} (hu:X.A.units+62<cLine) (ha:MLk X ad a f) (hb:MLk X ad b g) (hm:behindInMarks op b=false):MT X ad (.Compare a [op] [b] pos) (rCmp op f g):=
 jD hm fun I hG hS hx hr=>mL hu ha hb I hG hS hx hr
theorem hX {x y:Value} {A:Around} {E':Value→Shared→Prop} {Q:Bool→Shared→Prop} (h:wpAny (model X.prog X.w) A (compareOp .In x y) (fun v s=> ∃ b,v= .bool b∧Q b s) E' s):wpAny (model X.prog X.w) A (contains y x) Q E' s:=fun Γ p hΓ=>by
 have t:=h Γ p hΓ
 rw [show compareOp .In x y=(contains y x >>= fun b=>pure (.bool b)) from rfl,Sem.wp_bind'] at t
 refine Sem.wp_mono _ _ _ (fun b p' s' q=> ?_) (fun _ _ _ q=>q) _ _ t
 rw [Sem.wp_pure'] at q
 obtain⟨b',e,q⟩:=q
 cases e
 exact q
theorem mM {op:CmpOp} {x:D} {v:V} {u:Value} {a:Addr} {es:Nat×List (Int×Addr×V)} {kvs:List (D×D)} {Q:VK} {E:Nat→Hp→Prop} (hu:X.A.units+62<cLine) (I:Inv X pins σ H s) (hG:Same G H) (ru:RelV v u) (rx:Rep X.K ad G x v) (hk:keyOk x=true)
  (ha:H a=some (dcO a es)) (hd:DR X.K ad G kvs es) (hko:KOk kvs) (k:RK X.K ad G H (inK op (hasK kvs x)) Q E):wpAny (model X.prog X.w) X.A (compareOp op u (.ref a)) (EP X pins σ Q) X.xe s:=by
 obtain⟨b,rfl⟩:=eV hk rx
 cases ru
 obtain⟨hz,hln,xs,hx,hm⟩:=mK I hG ha hd hko
 have hlen:kvs.length=xs.length:=(mI hd).trans (Paired.length hx)
 have go:wpAny (model X.prog X.w) X.A (contains (.ref a) (.ref b)) (fun c s'=>c=hasK kvs x∧Inv X pins σ H s') X.xe s:=by
  refine hX (wpAny_in_heap (knd:=nKind X.prog X.w) (show X.A.in1.units+20<cLine by have:=X.A.in1_units;omega) (jC I hG hk rx) hz hm ⟨_,rfl, ?_⟩)
  rw [wM hk hlen hko.1]
  exact⟨rfl,I.tok _⟩
 cases op<;>try exact False.elim k
 ·rw [show compareOp .In (.ref b) (.ref a)=(contains (.ref a) (.ref b) >>= fun b=>pure (.bool b)) from rfl]
  refine wpAny_bind (L2.thn go fun c s' hc=>wpAny_pure ?_)
  obtain⟨rfl,I'⟩:=hc
  exact⟨.bl _,H,I',rfl,k.ok_now hG aG⟩
 ·rw [show compareOp .NotIn (.ref b) (.ref a)=(contains (.ref a) (.ref b) >>= fun b=>pure (.bool !b)) from rfl]
  refine wpAny_bind (L2.thn go fun c s' hc=>wpAny_pure ?_)
  obtain⟨rfl,I'⟩:=hc
  exact⟨.bl _,H,I',rfl,k.ok_now hG aG⟩
theorem qI {op:CmpOp} {a:Expr} {f:F} {i:Nat} {x:Str} {p:Pos} {Q:VK} {E:Nat→Hp→Prop} (hN:X.N[i]? =some x) (hv:Vis X.env.scope x) (hd:(x==("__debug__":Str))=false) (hcd:(x==("__classdict__":Str))=false) (hu:X.A.units+62<cLine) (ha:MLk X ad a f) (I:Inv X pins σ H s) (hG:Same G H) (hS:SL X.K ad G H ρ σ) (hx:XP X ad σ E) (hr:RK X.K ad G H (rInS op f i ρ) Q E):
  wpAny (model X.prog X.w) X.A (eval a X.env) (fun u s1=>wpAny (model X.prog X.w) X.A (eval (.Name x p) X.env) (fun z s2=>wpAny (model X.prog X.w) X.A (compareOp op u z) (EP X pins σ Q) X.xe s2) X.xe s1) X.xe s:=by
 refine L2.thn (ha pins s σ H G ρ (fun x=>match ρ[i]? with
  | some (.dc kvs)=>if keyOk x then inK op (hasK kvs x) else .bad
  | some (.sd kvs)=>if keyOk x then inK op (hasK kvs x) else .bad
  | some (.sh y)=>dCmp op x y
  | some (.ow ys)=>dCmp op x (.lst ys)
  | _=> .bad) Q E I hG hS hx hr) fun u s1 hz1=> ?_
 obtain⟨v,d1,G1,H1,I1,r1,st1,q1,k1⟩:=hz1
 have S1:=hS.step st1
 cases e:ρ[i]? with
 | none=>rw [e] at k1;exact k1.elim
 | some sl=>
  rw [e] at k1
  have look: ∀ (w:V),σ[i]? =some (some w)→(∀ z s2,Inv X pins σ H1 s2→RelV w z→wpAny (model X.prog X.w) X.A (compareOp op u z) (EP X pins σ Q) X.xe s2)→
    wpAny (model X.prog X.w) X.A (eval (.Name x p) X.env) (fun z s2=>wpAny (model X.prog X.w) X.A (compareOp op u z) (EP X pins σ Q) X.xe s2) X.xe s1:=fun w h1 h=>by
   refine L2.thn (aS hN hv hd hcd pins s1 σ H1 (fun v' H'=>v'=w∧H'=H1) I1 ⟨w,h1,rfl,rfl⟩) fun z s2 hz_=> ?_
   obtain⟨v',H',I2,r2,e1,e2⟩:=hz_
   subst e1;subst e2
   exact h z s2 I2 r2
  cases sl with
  | no=>exact k1.elim
  | sh y=>
   obtain⟨w,h1,h2⟩:=S1.sh e
   exact look w h1 fun z s2 I2 r2=>hW hu I2 st1.gh q1 (.inl h2) r1 r2 k1
  | ow ys=>
   obtain⟨b,vs,h1,h2,h3,h4⟩:=S1.ow e
   exact look _ h1 fun z s2 I2 r2=>hW hu I2 st1.gh q1 (.inr ⟨b,vs,ys,rfl,rfl,h2,h3,h4⟩) r1 r2 k1
  | dc kvs=>
   obtain⟨b,es,h1,h2,h3,h4,h5⟩:=S1.dc e
   have k2:RK X.K ad G1 H1 (if keyOk d1=true then inK op (hasK kvs d1) else .bad) Q E:=k1
   by_cases hk:keyOk d1=true
   ·rw [if_pos hk] at k2
    refine look _ h1 fun z s2 I2 r2=> ?_
    cases r2
    rcases q1 with q1 | ⟨_,_,ds,rfl,_⟩
    ·exact mM hu I2 st1.gh r1 q1 hk h3 h4 h5 k2
    ·exact absurd (dU hk).1 Bool.false_ne_true
   ·rw [if_neg hk] at k2
    exact k2.elim
  | sd kvs=>
   obtain⟨b,es,h1,h2,h3,h4,h5⟩:=S1.sd e
   have k2:RK X.K ad G1 H1 (if keyOk d1=true then inK op (hasK kvs d1) else .bad) Q E:=k1
   by_cases hk:keyOk d1=true
   ·rw [if_pos hk] at k2
    refine look _ h1 fun z s2 I2 r2=> ?_
    cases r2
    rcases q1 with q1 | ⟨_,_,ds,rfl,_⟩
    ·exact mM hu I2 st1.gh r1 q1 hk h3 h4 h5 k2
    ·exact absurd (dU hk).1 Bool.false_ne_true
   ·rw [if_neg hk] at k2
    exact k2.elim
theorem wP {op:CmpOp} {a:Expr} {f:F} {i:Nat} {x:Str} {p:Pos} (hN:X.N[i]? =some x) (hv:Vis X.env.scope x) (hd:(x==("__debug__":Str))=false) (hcd:(x==("__classdict__":Str))=false) (hu:X.A.units+62<cLine) (ha:MLk X ad a f) (hm:behindInMarks op (.Name x p)=false):ME X ad (.Compare a [op] [.Name x p] pos) (rInS op f i):=by
 intro pins s σ H Q I ⟨G,ρ,E,hG,hS,hx,hr⟩
 exact wpAny_Compare1 (qI hN hv hd hcd hu ha I hG hS hx hr) hm
theorem wQ {op:CmpOp} {a:Expr} {f:F} {i:Nat} {x:Str} {p:Pos} (hN:X.N[i]? =some x) (hv:Vis X.env.scope x) (hd:(x==("__debug__":Str))=false) (hcd:(x==("__classdict__":Str))=false) (hu:X.A.units+62<cLine) (ha:MLk X ad a f) (hm:behindInMarks op (.Name x p)=false):MT X ad (.Compare a [op] [.Name x p] pos) (rInS op f i):=
 jD hm fun I hG hS hx hr=>qI hN hv hd hcd hu ha I hG hS hx hr
noncomputable def rRem:V→List V→Hp→VK→Prop:=fun x vs H Q=> ∃ (l:Addr) (ns:List Int) (j:Int),x= .ref l∧vs=[.int j]∧H l=some (.lst (ns.map V.int))∧j∈ns∧Q .non (upd H l (.lst ((ns.erase j).map V.int)))
theorem bV: ∀ {xs:List V} {us:List Value} (k:Nat),Vals xs us→Vals (xs.eraseIdx k) (us.eraseIdx k)
 | _,_,_, .nil=> .nil
 | _,_,0, .cons _ t=>t
 | _,_,k+1, .cons r t=> .cons r (bV k t)
theorem f8: ∀ (ns:List Int) (k:Nat),(ns.eraseIdx k).map V.int=(ns.map V.int).eraseIdx k
 | [],_=>rfl
 | _::_,0=>rfl
 | n::ns,k+1=>congrArg (V.int n:: ·) (f8 ns k)
theorem eW {ns:List Int} {k:Nat} (h:k<ns.length):ns.getD k 0=ns[k]:=by simp [List.getD,List.getElem?_eq_getElem h]
theorem mO:MtM X "list.remove" rRem:=by
 intro pins s σ H x vs v us Q I rx rv h
 obtain⟨l,ns,j,rfl,rfl,hH,hj,q⟩:=h
 cases rx
 obtain⟨u,rfl,t,rfl⟩:=rv.one
 obtain⟨z,its,n,r,hl,e⟩:=I.lstM hH
 have hlen:=r.length
 rw [List.length_map] at hlen
 have at_: ∀ (k:Nat) (hk:k<its.toArray.size), ∃ t',its.toArray[k]= .int (ns.getD k 0) t':=fun k hk=>by
  have hk':k<ns.length:=by rw [List.size_toArray] at hk;omega
  obtain⟨w,e1,t',e2⟩:=r.get (i:=k) (x:= .int (ns.getD k 0)) (by rw [List.getElem?_map,List.getElem?_eq_getElem hk',eW hk'];rfl)
  refine⟨t', ?_⟩
  have:its.toArray[k]? =some w:=by simpa using e1
  rw [Array.getElem?_eq_getElem hk] at this
  rw [Option.some.inj this,e2]
 let ef:Value→Bool:=fun y=>match y with | .int a _=>a==j | _=>false
 have hi:ns.idxOf j<ns.length:=List.idxOf_lt_length_of_mem hj
 have he: ∀ y,y∈its.toArray→MeetsSeq.EqGives y (.int j t) (ef y):=fun y hy=>by
  obtain⟨k,hk,rfl⟩:=Array.mem_iff_getElem.mp hy
  obtain⟨t',e'⟩:=at_ k hk
  rw [e']
  exact MeetsSeq.EqGives.int _ _ _ _
 have hsz:its.toArray.size≤sizeLine:=by rw [List.size_toArray];rw [List.length_map] at z;omega
 refine call_meets F.slot_list_remove ⟨_,e,rfl⟩ F.entry_list_remove (F.args_list_remove_2 _ _)
  (MeetsSeq.list_remove l its.toArray n (.int j t) ef he (ns.idxOf j) (by rw [List.size_toArray];omega) ?_ ?_ hsz) ⟨e, ?_⟩
 ·obtain⟨t',e'⟩:=at_ (ns.idxOf j) (by rw [List.size_toArray];omega)
  rw [e']
  show(ns.getD (ns.idxOf j) 0==j)=true
  rw [eW hi,List.getElem_idxOf]
  exact beq_self_eq_true j
 ·intro m hm hlt
  obtain⟨t',e'⟩:=at_ m hm
  rw [e']
  show(ns.getD m 0==j)=false
  have hm':m<ns.length:=by omega
  rw [eW hm']
  have:=List.not_of_lt_findIdx (p:=(· ==j)) (xs:=ns) (i:=m) hlt
  simpa using this
 ·have el:ns.erase j=ns.eraseIdx (ns.idxOf j):=List.erase_eq_eraseIdx_of_idxOf rfl
  refine⟨.non,_,I.lset (its':=its.eraseIdx (ns.idxOf j)) (ys:=(ns.erase j).map V.int) hH e ?_ ?_ ?_,rfl,q⟩
  ·simp
  ·rw [el,f8];exact bV _ r
  ·rw [List.length_map] at z ⊢
   exact Nat.le_trans (List.length_erase_le) z
theorem jE: ∀ {xs:List D} {ns:List Int},dInts xs=some ns→xs=ns.map D.int
 | [],ns,h=>by cases h;rfl
 | .int i::r,ns,h=>by
  obtain⟨ms,h1,rfl⟩:=zMd (show(dInts r).map (i:: ·)=some ns from h)
  rw [jE h1];rfl
 | .non::_,_,h=>by cases h
 | .bl _::_,_,h=>by cases h
 | .str _::_,_,h=>by cases h
 | .tup _::_,_,h=>by cases h
 | .lst _::_,_,h=>by cases h
 | .exc _::_,_,h=>by cases h
 | .fn _::_,_,h=>by cases h
theorem jF {K:PySem.W.Frag}: ∀ {ns:List Int} {vs:List V},Reps K ad G (ns.map D.int) vs→vs=ns.map V.int
 | [],vs,h=>by simp only [List.map_nil] at h;unfold Reps at h;rw [h];rfl
 | n::ns,vs,h=>by
  simp only [List.map_cons] at h
  unfold Reps at h
  obtain⟨v,r,rfl,h1,h2⟩:=h
  unfold Rep at h1
  rw [h1,jF h2];rfl
theorem qJ {K:PySem.W.Frag}: ∀ (ns:List Int),Reps K ad G (ns.map D.int) (ns.map V.int)
 | []=>by simp only [List.map_nil];unfold Reps;rfl
 | n::ns=>by
  simp only [List.map_cons]
  unfold Reps
  exact⟨_,_,rfl,by unfold Rep;rfl,qJ ns⟩
theorem wR {i:Nat} {x:Str} {p ap cp:Pos} (hN:X.N[i]? =some x) (hv:Vis X.env.scope x) (hd:(x==("__debug__":Str))=false) (hcd:(x==("__classdict__":Str))=false) (he:ME X ad e f) (hs:starEach [e] X.env=(false,eval e X.env)::starEach [] X.env)
  (hline:(ap.endLine==cp.line)=true):MS X ad Z (.Expr (.Call (.Attribute (.Name x p) "remove" ap) [e] [] cp) pos) (sRem i f):=by
 refine PS.imp (dA (nV (T:="list") PySem.F.plainAttrs_list PySem.F.slot_list_remove PySem.F.type_list_remove mO (aS hN hv hd hcd) (aQ he bA hs) rfl (bG hs) hline hs rfl) rfl) ?_
 rintro D' σ H ⟨G₀,G,ρ,E,S,hx,hr⟩
 unfold sRem at hr
 cases q:ρ[i]? with
 | none=>rw [q] at hr;exact hr.elim
 | some sl=>
  rw [q] at hr
  cases sl with
  | no=>exact hr.elim
  | sh d=>exact hr.elim
  | dc d=>exact hr.elim
  | sd d=>exact hr.elim
  | ow xs=>
   obtain⟨a,vs,h1,h2,h3,h4⟩:=S.sl.ow q
   refine⟨.ref a,h1, .inl ⟨rfl,vs,SqL.of h3⟩, ?_⟩
   refine aT S hx hr fun v d G1 H1 st r k=> ?_
   obtain⟨g1,h1'⟩:=aP st h2 h3
   cases d<;>try exact False.elim k
   rename_i j
   have k':OKo X ad G₀ (match dInts xs with | some ns=>if ns.contains j then .nx (ρ.set i (.ow ((ns.erase j).map D.int))) else .rt .bad | none=> .rt .bad) D' E:=by
    cases z:dInts xs with
    | none=>simp only [z] at k;exact k
    | some ns=>simp only [z] at k;exact k
   cases z:dInts xs with
   | none=>rw [z] at k';exact k'.elim
   | some ns=>
    rw [z] at k'
    have k2:OKo X ad G₀ (if ns.contains j=true then .nx (ρ.set i (.ow ((ns.erase j).map D.int))) else .rt .bad) D' E:=k'
    by_cases hc:ns.contains j=true
    ·rw [if_pos hc] at k2
     have ex:=jE z
     subst ex
     have ev:=jF h4
     subst ev
     unfold Rep at r;subst r
     exact⟨a,ns,j,rfl,rfl,h1',by simpa using hc,k2 σ G1 _ ((S.step st).upd q h1 g1 (qJ _))⟩
    ·rw [if_neg hc] at k2
     exact k2.elim
end
section
variable {prog:Program} {w:World} {A:Around} {E:Value→Shared→Prop} {s:Shared}
theorem mP {d:Addr} {o:Obj} {ar:Array DictEntry} {ep:Nat} {Q:Value→Shared→Prop} (hd:(d==sysModules)=false) (ho:s.heap.get? d=some o) (hc:o.ExactDict) (hdat:o.data= .dict ar ep)
  (hQ:Q (.ref s.heap.objs.size) { s with heap:=s.heap.push { cls:= .type "dict_keyiterator",data:= .fields #[.ref d, .int 0 0, .int ar.size 0, .int ep 0] } }):
  wpAny (model prog w) A (pyIter (.ref d)) Q E s:=by
 have ty:s.TypeIs (.ref d) "dict":=⟨o,ho,hc.1⟩
 refine wpAny_pyIter_slot ty F.slot_dict_iter (wpAny_call_entry F.slot_dict_iter ty F.entry_dict_iter ?_ (F.args_dict_iter_1 _))
 unfold Builtin.«dict.__iter__» Builtin.Dict.dictSlotNone
 refine wpAny_bind (wpAny_bind (wpAny_notOrdered_dict ty ?_))
 refine wpAny_pure ?_
 unfold Builtin.Dict.showsAll
 show wpAny _ _ ((if(d==sysModules)=true then _ else _) >>= _) _ _ s
 rw [hd,if_neg Bool.false_ne_true]
 refine wpAny_bind (wpAny_pure (wpAny_bind (wpAny_dictEntries ho hdat (wpAny_bind (wpAny_dictEpoch ho hdat ?_)))))
 refine wpAny_bind (wpAny_newObj_type (wpAny_pure ⟨_,rfl,"dict_keyiterator",_,⟨_,Heap.get?_push_size _ rfl,rfl⟩,F.slot_dict_keyiterator_next.lookup, ?_⟩))
 simpa [rawInt] using hQ
theorem sZ {it d:Addr} {i ep:Nat} {o:Obj} {ar:Array DictEntry} {Q:Option Value→Shared→Prop} (hit:s.heap.IsKeyIter it d i ar.size ep) (ho:s.heap.get? d=some o) (hdat:o.data= .dict ar ep) (hi:i<ar.size)
  (hQ: ∀ h',h'.IsKeyIter it d (i+1) ar.size ep→Heap.SameBut it s.heap h'→Q (some ar[i].key) { s with heap:=h' }):wpAny (model prog w) A (pyNext (.ref it)) Q E s:=by
 obtain⟨oi,hoi,hci,hdi⟩:=id hit
 have ty:=hit.typeIs
 unfold pyNext
 refine wpAny_bind (wpAny_attempt (wpAny_callSpecial?_slot (name:=Str.ofString "__next__") ty F.slot_dict_keyiterator_next (wpAny_call_entry F.slot_dict_keyiterator_next ty F.entry_dict_keyiterator_next ?_ (F.args_dict_keyiterator_next_1 _))))
 refine wpAny_bind (wpAny_pure (wpAny_bind (wpAny_bind ?_)))
 first
  | refine wpAny_bind (wpAny_typeNameOfWhole_keyiter ty (wpAny_pure (wpAny_bind (wpAny_fieldsOf hoi hdi ?_))))
  | refine wpAny_bind (wpAny_typeNameOf_keyiter ty (wpAny_pure (wpAny_bind (wpAny_fieldsOf hoi hdi ?_))))
 have own:Builtin.Dict_items.ownsTuple "dict_keyiterator"=false:=by decide
 simp only [own,Bool.false_eq_true,if_false]
 show wpAny _ _ (if(Value.ref d==Value.none)=true then _ else _) _ _ s
 rw [if_neg (show ¬ (Value.ref d==Value.none)=true from Bool.false_ne_true)]
 refine wpAny_bind (wpAny_pure (wpAny_bind (wpAny_dictEntries ho hdat ?_)))
 rw [if_neg (by simp)]
 refine wpAny_bind (wpAny_pure (wpAny_bind (wpAny_dictEpoch ho hdat ?_)))
 rw [if_neg (by simp)]
 refine wpAny_pure ?_
 simp only [show ¬ ((i:Int)<0) from by omega,if_false,Int.toNat_natCast,Array.getElem?_eq_getElem hi]
 refine wpAny_bind ?_
 first
  | refine wpAny_bind (wpAny_typeNameOfWhole_keyiter ty (wpAny_pure (wpAny_bind (wpAny_isOneOf_keyiter ty ?_))))
  | refine wpAny_bind (wpAny_typeNameOf_keyiter ty (wpAny_pure (wpAny_bind (wpAny_isOneOf_keyiter ty ?_))))
  | refine wpAny_bind (wpAny_typeNameOfWhole_keyiter ty (wpAny_pure ?_))
 show wpAny _ _ (setField (.ref it) 1 (rawInt ((i:Int)+1)) >>= _) _ _ s
 refine wpAny_bind (wpAny_setField hoi hdi (by simp) ?_)
 have nx:(s.heap.update it (Obj.mapFields (·.setIfInBounds 1 (rawInt ((i:Int)+1))))).IsKeyIter it d (i+1) ar.size ep:=
  ⟨_,Heap.get?_update_self _ hoi (Obj.isFreed_of_fields (Obj.data_mapFields hdi _)),(Obj.cls_mapFields ..).trans hci,by rw [Obj.data_mapFields hdi];simp [rawInt]⟩
 refine wpAny_bind (wpAny_holding (wpAny_bind (wpAny_isOneOf_keyiter (s:={ s with heap:=s.heap.update it (Obj.mapFields (·.setIfInBounds 1 (rawInt ((i:Int)+1)))) }) nx.typeIs ?_)))
 exact wpAny_pure (wpAny_pure ⟨_,rfl,wpAny_pure (hQ _ nx (Heap.SameBut.update ..))⟩)
theorem tF {it d:Addr} {i ep:Nat} {o:Obj} {ar:Array DictEntry} {Q:Option Value→Shared→Prop} (hh:A.handled=none) (hit:s.heap.IsKeyIter it d i ar.size ep) (ho:s.heap.get? d=some o) (hdat:o.data= .dict ar ep) (hi:ar.size≤i)
  (hQ: ∀ h',Heap.ExtBut it s.heap h'→Q none { s with heap:=h' }):wpAny (model prog w) A (pyNext (.ref it)) Q E s:=by
 obtain⟨oi,hoi,hci,hdi⟩:=id hit
 have ty:=hit.typeIs
 unfold pyNext
 refine wpAny_bind (wpAny_attempt (wpAny_callSpecial?_slot (name:=Str.ofString "__next__") ty F.slot_dict_keyiterator_next (wpAny_call_entry F.slot_dict_keyiterator_next ty F.entry_dict_keyiterator_next ?_ (F.args_dict_keyiterator_next_1 _))))
 refine wpAny_bind (wpAny_pure (wpAny_bind (wpAny_bind ?_)))
 first
  | refine wpAny_bind (wpAny_typeNameOfWhole_keyiter ty (wpAny_pure (wpAny_bind (wpAny_fieldsOf hoi hdi ?_))))
  | refine wpAny_bind (wpAny_typeNameOf_keyiter ty (wpAny_pure (wpAny_bind (wpAny_fieldsOf hoi hdi ?_))))
 have own:Builtin.Dict_items.ownsTuple "dict_keyiterator"=false:=by decide
 simp only [own,Bool.false_eq_true,if_false]
 show wpAny _ _ (if(Value.ref d==Value.none)=true then _ else _) _ _ s
 rw [if_neg (show ¬ (Value.ref d==Value.none)=true from Bool.false_ne_true)]
 refine wpAny_bind (wpAny_pure (wpAny_bind (wpAny_dictEntries ho hdat ?_)))
 rw [if_neg (by simp)]
 refine wpAny_bind (wpAny_pure (wpAny_bind (wpAny_dictEpoch ho hdat ?_)))
 rw [if_neg (by simp)]
 refine wpAny_pure ?_
 simp only [show ¬ ((i:Int)<0) from by omega,if_false,Int.toNat_natCast,Array.getElem?_eq_none hi]
 refine wpAny_bind ?_
 first
  | refine wpAny_bind (wpAny_typeNameOfWhole_keyiter ty (wpAny_pure ?_))
  | refine wpAny_bind (wpAny_typeNameOf_keyiter ty (wpAny_pure ?_))
 show wpAny _ _ (setField (.ref it) 0 .none >>= _) _ _ s
 refine wpAny_bind (wpAny_setField hoi hdi (by simp) (wpAny_bind ?_))
 simp only [newExc,newTuple]
 refine wpAny_bind (wpAny_newObj_type (wpAny_bind (m:=firstArgMember _ _) (wpAny_of_eq (a:=Value.none) (by first | rfl | (simp only [firstArgMember];rfl)) (wpAny_newObj_type ?_ (by size_fits)))) (by size_fits))
 simp only [raiseNew]
 refine wpAny_bind (wpAny_handled ?_)
 rw [show A.in1.handled=none from hh]
 refine wpAny_bind (wpAny_pure (wpAny_throw ?_))
 refine wpAny_bind (wpAny_isInstance (b:=true) (T:="StopIteration") ⟨_,Heap.get?_push_size _ rfl,rfl⟩ isSubtype_stop ?_)
 exact wpAny_pure (hQ _ (((Heap.SameBut.update ..).extBut.push _).push _))
end
noncomputable def Itd (a:Addr) (ep n:Nat):It:=
 ⟨fun i H=>i<n∧ ∃ es,H a=some (dcO a (ep,es))∧es.length=n,fun i H x H'=>H'=H∧ ∀ es,H a=some (dcO a es)→ ∃ e,es.2[i]? =some e∧x= .ref e.2.1,fun i H=>n≤i∧ ∃ es,H a=some (dcO a (ep,es))∧es.length=n⟩
theorem f9 {α β:Type} {R:α→β→Prop}: ∀ {l:List α} {m:List β},Paired R l m→ ∀ {i:Nat} {b:β},m[i]? =some b→ ∃ a,l[i]? =some a∧R a b
 | _,_, .nil,i,b,h=>by simp at h
 | _,_, .cons r t,0,b,h=>by simp at h;subst h;exact⟨_,rfl,r⟩
 | _,_, .cons r t,i+1,b,h=>by
  obtain⟨a,e,r⟩:=f9 t (i:=i) (b:=b) (by simpa using h)
  exact⟨a,by simpa using e,r⟩
theorem cJ {α β:Type} {R:α→β→Prop}: ∀ {l:List α} {m:List β},Paired R l m→ ∀ {i:Nat} {a:α},l[i]? =some a→ ∃ b,m[i]? =some b∧R a b
 | _,_, .nil,i,b,h=>by simp at h
 | _,_, .cons r t,0,b,h=>by simp at h;subst h;exact⟨_,rfl,r⟩
 | _,_, .cons r t,i+1,b,h=>by
  obtain⟨a,e,r⟩:=cJ t (i:=i) (a:=b) (by simpa using h)
  exact⟨a,by simpa using e,r⟩
theorem gA {P:Program} {w:World} {K:PySem.W.Frag} {tg:Expr} (a it:Addr) (ep n:Nat):Turn P w K tg (Itd a ep n) [it] it (fun i h=>h.IsKeyIter it a i n ep) where
 mem:=by simp
 obj:=fun i h st b hb=>by
  have e:b=it:=by simpa using hb
  subst e
  obtain⟨o,e,c,d⟩:=st
  exact⟨o,e,fun v z=>by rw [d] at z;cases z⟩
 keep:=fun i h h' st k=>st.at fun o e=>k it (by simp) o e
 item:=by
  intro X hP hw hK hc i pins s σ H E I hf st hg
  subst hP hw hK
  obtain⟨hi,es,ha,hl⟩:=hg
  obtain⟨⟨z,l,o,ar,xs,ho,he,hdat,har,hx⟩,_,_⟩:=I.hok a _ ha
  have sz:ar.size=n:=by rw [←Array.length_toList,har,List.length_map, ←Paired.length hx];exact hl
  obtain⟨f0,f1,f2,f3,f4,f5⟩:=hf it (by simp)
  have hi':i<ar.size:=by rw [sz];exact hi
  refine sZ (ar:=ar) (by rw [sz];exact st) ho hdat hi' fun h' st' sb=> ?_
  have I1:Inv X pins σ H { s with heap:=h' }:=I.turned (t':=s.toks) (fun b o hb e=>(sb.2 b hb).trans e) f0 f1 f3 f4 f5
  have exi:xs[i]? =some (xs[i]'(by have:=congrArg List.length har;rw [Array.length_toList,List.length_map] at this;omega)):=List.getElem?_eq_getElem _
  have key: ∀ (es:Nat×List (Int×Addr×V)),DcAt s.heap a es→ ∃ e,es.2[i]? =some e∧ar[i].key= .ref e.2.1:=fun es d=>by
   obtain⟨_,_,o',ar',xs',ho',_,hdat',har',hx'⟩:=d
   have eo:o'=o:=by rw [ho] at ho';cases ho';rfl
   subst eo
   rw [hdat] at hdat'
   cases hdat'
   have hlx:i<xs'.length:=by have:=congrArg List.length har';rw [Array.length_toList,List.length_map] at this;omega
   obtain⟨e,e1,r⟩:=f9 hx' (i:=i) (b:=xs'[i]) (List.getElem?_eq_getElem _)
   refine⟨e,e1, ?_⟩
   have:ar.toList[i]? =some ⟨xs'[i].1, .ref xs'[i].2.1,xs'[i].2.2⟩:=by rw [har',List.getElem?_map,List.getElem?_eq_getElem hlx];rfl
   rw [Array.getElem?_toList,Array.getElem?_eq_getElem hi'] at this
   rw [Option.some.inj this,r.2.1]
  obtain⟨e0,_,k0⟩:=key (ep,es) ⟨z,l,o,ar,xs,ho,he,hdat,har,hx⟩
  obtain⟨oi,e,c,d⟩:=id st'
  rw [k0]
  refine⟨_,rfl,nR (s:={ s with heap:=h' }) e c d (by decide) ⟨.ref e0.2.1,H,I1,rfl,⟨rfl,fun es' h'=> ?_⟩,by rw [←sz];exact st',fun b hb=>(hf b hb).1⟩⟩
  obtain⟨e1,q1,q2⟩:=key es' (I.hok a _ h').1
  refine⟨e1,q1, ?_⟩
  rw [Value.ref.inj (k0.symm.trans q2)]
 done:=by
  intro X hP hw hK hc i pins s σ H E I hf st hg
  subst hP hw hK
  obtain⟨hi,es,ha,hl⟩:=hg
  obtain⟨⟨z,l,o,ar,xs,ho,he,hdat,har,hx⟩,_,_⟩:=I.hok a _ ha
  have sz:ar.size=n:=by rw [←Array.length_toList,har,List.length_map, ←Paired.length hx];exact hl
  obtain⟨f0,f1,f2,f3,f4,f5⟩:=hf it (by simp)
  exact tF (ar:=ar) (I.ok.hd hc) (by rw [sz];exact st) ho hdat (by rw [sz];exact hi) fun h' eb=>⟨rfl,I.turned (t':=s.toks) (fun b o hb e=>eb b o hb e) f0 f1 f3 f4 f5⟩
 self:=fun _ _ _ _ _ st h=>wpAny_pyIter_keyiter st h
section
variable {X:Cx} {ad:Ad} {pins:List (Addr×Obj)} {s:Shared} {σ:St} {H G:Hp} {ρ:Rho} {tg:Expr}
theorem o0 {a:Addr} {es:Nat×List (Int×Addr×V)} {kvs:List (D×D)} (ha:H a=some (dcO a es)) (hd:DR X.K ad G kvs es) (few:es.2.length≤200000):ItH X ad (Itd a es.1 es.2.length) G H (kvs.map (·.1)):=by
 have hl:kvs.length=es.2.length:=Paired.length hd
 refine⟨fun i G1 H1 d st e=> ?_,fun G1 H1 st=>⟨by rw [List.length_map,hl];exact Nat.le_refl _,es.2,st.sh _ _ ha,rfl⟩,by rw [List.length_map,hl];exact Nat.le_trans few (by decide)⟩
 rw [List.getElem?_map] at e
 obtain⟨p,e1,rfl⟩:=zMd e
 obtain⟨q,e2,r⟩:=cJ hd e1
 have hi:i<es.2.length:=(List.getElem?_eq_some_iff.mp e2).1
 refine⟨⟨hi,es.2,st.sh _ _ ha,rfl⟩, ?_⟩
 rintro x H2 ⟨rfl,y⟩
 obtain⟨q',e3,rfl⟩:=y es (st.sh _ _ ha)
 rw [e2] at e3
 cases e3
 exact⟨G1,Step.refl st.gh,r.2.1.mono st.sg⟩
theorem mQ {i:Nat} {x:Str} {p:Pos} {a:Addr} {es:Nat×List (Int×Addr×V)} {kvs:List (D×D)} {W:It→Hp→Prop} (hN:X.N[i]? =some x) (hv:Vis X.env.scope x) (hd:(x==("__debug__":Str))=false) (hcd:(x==("__classdict__":Str))=false)
  (I:Inv X pins σ H s) (hG:Same G H) (h1:σ[i]? =some (some (.ref a))) (h3:H a=some (dcO a es)) (h4:DR X.K ad G kvs es) (h5:KOk kvs) (hw: ∀ J G' H',Step G H G' H'→ItH X ad J G' H' (kvs.map (·.1))→W J H'):
  wpAny (model X.prog X.w) X.A (eval (.Name x p) X.env) (fun v s1=>wpAny (model X.prog X.w) X.A (pyIter v) (PIE X pins σ tg W) X.xe s1) X.xe s:=by
 refine L2.thn (aS hN hv hd hcd pins s σ H (fun v' H'=>v'= .ref a∧H'=H) I ⟨.ref a,h1,rfl,rfl⟩) fun z s1 hz_=> ?_
 obtain⟨v',H',I1,r1,e1,e2⟩:=hz_
 subst e1;subst e2
 cases r1
 obtain⟨hz,hln,_⟩:=mK I1 hG h3 h4 h5
 obtain⟨⟨z,l,o,ar,xs,ho,he,hdat,har,hx⟩,_,_⟩:=I1.hok a _ h3
 have sz:ar.size=es.2.length:=by rw [←Array.length_toList,har,List.length_map, ←Paired.length hx]
 refine mP hz ho he hdat ?_
 refine⟨s1.heap.objs.size,[s1.heap.objs.size],_,_,H',rfl,I1.kept (t':=s1.toks) fun b o e=>Heap.get?_push_of_some _ e,gA a _ es.1 es.2.length,⟨_,Heap.get?_push_size _ rfl,rfl,by rw [sz];rfl⟩,fun b hb=> ?_,hw _ G H' (Step.refl hG) (o0 h3 h4 hln)⟩
 have e:b=s1.heap.objs.size:=by simpa using hb
 subst e
 exact I1.fpOk (Nat.le_refl _) (I1.hok.fresh (Nat.le_refl _))
theorem tG {i:Nat} {x:Str} {p:Pos} (hN:X.N[i]? =some x) (hv:Vis X.env.scope x) (hd:(x==("__debug__":Str))=false) (hcd:(x==("__classdict__":Str))=false):MI X ad tg (.Name x p) (iLook i):=by
 intro pins s σ H W I ⟨G,ρ,E,hG,hS,hx,hr⟩
 have other:iLook i ρ=rLook i ρ→wpAny (model X.prog X.w) X.A (eval (.Name x p) X.env) (fun v s1=>wpAny (model X.prog X.w) X.A (pyIter v) (PIE X pins σ tg W) X.xe s1) X.xe s:=fun z=>
  iT (gX hN hv hd hcd) pins s σ H W I ⟨G,ρ,E,hG,hS,hx,by rw [←z];exact hr⟩
 cases e:ρ[i]? with
 | none=>exact other (by unfold iLook;rw [e])
 | some sl=>
  cases sl with
  | no=>exact other (by unfold iLook;rw [e])
  | sh d=>exact other (by unfold iLook;rw [e])
  | ow d=>exact other (by unfold iLook;rw [e])
  | dc kvs=>
   unfold iLook at hr
   rw [e] at hr
   obtain⟨ds,e1,hw⟩:=hr
   cases e1
   obtain⟨a,es,h1,h2,h3,h4,h5⟩:=hS.dc e
   exact mQ hN hv hd hcd I hG h1 h3 h4 h5 hw
  | sd kvs=>
   unfold iLook at hr
   rw [e] at hr
   obtain⟨ds,e1,hw⟩:=hr
   cases e1
   obtain⟨a,es,h1,h2,h3,h4,h5⟩:=hS.sd e
   exact mQ hN hv hd hcd I hG h1 h3 h4 h5 hw
theorem wS {kvs:List (D×D)} {es:List (Int×Addr×V)} {xs:List (Int×Addr×Value)} {k:D} (hk:keyOk k=true) (hd:DL X.K ad G kvs es) (hx:Paired RX es xs) (ha: ∀ p∈kvs,keyOk p.1=true) {p:D×D} (hf:(kvs.find? fun p=>deq p.1 k)=some p):
  ∃ b u v,atKey (List.zipWith y3 kvs xs) (toPy k)=some (b,u)∧RelV v u∧Rep X.K ad G p.2 v:=by
 unfold atKey
 induction hd generalizing xs with
 | nil=>cases hf
 | @cons q e kvs' es' r _ ih=>
  cases hx with
  | @cons _ y _ xs r2 hx=>
   show ∃ b u v,((y3 q y::List.zipWith y3 kvs' xs).find? _).map _=some (b,u)∧_
   rw [List.find?_cons] at hf ⊢
   have ke:=jB (ha q (.head _)) hk
   rw [ke] at hf
   cases z:decide (toPy q.1=toPy k) with
   | true=>
    rw [z] at hf
    cases hf
    refine⟨y.2.1,y.2.2,e.2.2, ?_,r2.2.2,r.2.2⟩
    show Option.map _ (match decide (toPy p.1=toPy k) with | true=>some (y3 p y) | false=>_)=_
    rw [z]
    rfl
   | false=>
    rw [z] at hf
    obtain⟨b,u,v,e1,e2,e3⟩:=ih hx (fun p hp=>ha p (.tail _ hp)) hf
    refine⟨b,u,v, ?_,e2,e3⟩
    show Option.map _ (match decide (toPy q.1=toPy k) with | true=>some (y3 q y) | false=>_)=_
    rw [z]
    exact e1
theorem wT {i:Nat} {x:Str} {p:Pos} {k:Expr} {g:F} {pos:Pos} (hN:X.N[i]? =some x) (hv:Vis X.env.scope x) (hd:(x==("__debug__":Str))=false) (hcd:(x==("__classdict__":Str))=false) (hu:X.A.units+62<cLine) (hb:ME X ad k g) (hs:PlainIx k):ME X ad (.Subscript (.Name x p) k pos) (rGet i g):=by
 intro pins s σ H Q I ⟨G,ρ,E,hG,hS,hx,hr⟩
 have go: ∀ (a:Addr) (es:Nat×List (Int×Addr×V)) (kvs:List (D×D)),σ[i]? =some (some (.ref a))→H a=some (dcO a es)→DR X.K ad G kvs es→KOk kvs→RK X.K ad G H ((g ρ).bind (getK kvs)) Q E→
   wpAny (model X.prog X.w) X.A (eval (.Subscript (.Name x p) k pos) X.env) (EP X pins σ Q) X.xe s:=by
  intro a es kvs h1 h3 h4 h5 kk
  refine Subscript_ (L2.thn (aS hN hv hd hcd pins s σ H (fun v' H'=>v'= .ref a∧H'=H) I ⟨.ref a,h1,rfl,rfl⟩) fun v s1 hz_=> ?_)
  obtain⟨v',H',I1,r1,e1,e2⟩:=hz_
  subst e1;subst e2
  cases r1
  refine L2.thn (hb.thn I1 hG hS hx kk) fun u s2 hz_=> ?_
  obtain⟨y,d2,G2,H2,I2,r2,st2,q2,k2⟩:=hz_
  unfold getK at k2
  by_cases hk:keyOk d2=true
  ·rw [if_pos hk] at k2
   cases e:kvs.find? fun p=>deq p.1 d2 with
   | none=>rw [e] at k2;exact k2.elim
   | some q=>
    rw [e] at k2
    have k3:RK X.K ad G2 H2 (.ok q.2) Q E:=k2
    obtain⟨b,rfl⟩:=eV hk q2
    cases r2
    obtain⟨hz,hln,xs,hx',hm⟩:=mK I2 st2.gh (st2.sh _ _ h3) (h4.mono st2.sg) h5
    obtain⟨b',u',w,e1,e2,e3⟩:=wS hk (h4.mono st2.sg) hx' h5.1 e
    exact subscriptTail_builtinR (x:=u') hm.typeIs slot_dict_getitem.lookup (wpAny_getItem_heap (Q:=fun r s'=>r=u'∧EP X pins σ Q r s') (knd:=nKind X.prog X.w) (show X.A.in1.units+20<cLine by have:=X.A.in1_units;omega) (jC I2 st2.gh hk q2) hm e1 ⟨rfl,w,H2,I2.tok _,e2,k3.ok_now st2.gh e3⟩) (hs _ _)
  ·rw [if_neg hk] at k2
   exact k2.elim
 unfold rGet at hr
 cases e:ρ[i]? with
 | none=>rw [e] at hr;exact hr.elim
 | some sl=>
  rw [e] at hr
  cases sl with
  | no=>exact hr.elim
  | sh d=>exact hr.elim
  | ow d=>exact hr.elim
  | dc kvs=>
   obtain⟨a,es,h1,h2,h3,h4,h5⟩:=hS.dc e
   exact go a es kvs h1 h3 h4 h5 hr
  | sd kvs=>
   obtain⟨a,es,h1,h2,h3,h4,h5⟩:=hS.sd e
   exact go a es kvs h1 h3 h4 h5 hr
theorem o7 {a:Addr} {es:Nat×List (Int×Addr×V)} {kvs:List (D×D)} (ha:G a=some (dcO a es)) (hd:DR X.K ad G kvs es):ItG X ad (Itd a es.1 es.2.length) G (kvs.map (·.1)):=by
 have hl:kvs.length=es.2.length:=Paired.length hd
 refine⟨fun i G1 H1 d s1 s2 e=> ?_,fun G1 H1 s1 s2=>⟨by rw [List.length_map,hl];exact Nat.le_refl _,es.2,s2 _ _ (s1 _ _ ha),rfl⟩⟩
 rw [List.getElem?_map] at e
 obtain⟨p,e1,rfl⟩:=zMd e
 obtain⟨q,e2,r⟩:=cJ hd e1
 have hi:i<es.2.length:=(List.getElem?_eq_some_iff.mp e2).1
 refine⟨⟨hi,es.2,s2 _ _ (s1 _ _ ha),rfl⟩, ?_⟩
 rintro x H2 ⟨rfl,y⟩
 obtain⟨q',e3,rfl⟩:=y es (s2 _ _ (s1 _ _ ha))
 rw [e2] at e3
 cases e3
 exact⟨G1,Step.refl s2,r.2.1.mono s1⟩
theorem wU {i:Nat} {x:Str} {p:Pos} (hN:X.N[i]? =some x) (hv:Vis X.env.scope x) (hd:(x==("__debug__":Str))=false) (hcd:(x==("__classdict__":Str))=false) (hm:MIG X ad tg (.Name x p) (rVar i)):MIG X ad tg (.Name x p) (iSd i):=by
 intro pins s σ H W I ⟨G,ρ,E,hG,hS,hx,hr⟩
 have other:iSd i ρ=rVar i ρ→wpAny (model X.prog X.w) X.A (eval (.Name x p) X.env) (fun v s1=>wpAny (model X.prog X.w) X.A (pyIter v) (PIE X pins σ tg W) X.xe s1) X.xe s:=fun z=>
  hm pins s σ H W I ⟨G,ρ,E,hG,hS,hx,by rw [←z];exact hr⟩
 cases e:ρ[i]? with
 | none=>exact other (by unfold iSd;rw [e])
 | some sl=>
  cases sl with
  | no=>exact other (by unfold iSd;rw [e])
  | sh d=>exact other (by unfold iSd;rw [e])
  | ow d=>exact other (by unfold iSd;rw [e])
  | dc d=>exact other (by unfold iSd;rw [e])
  | sd kvs=>
   unfold iSd at hr
   rw [e] at hr
   obtain⟨ds,e1,hw⟩:=hr
   cases e1
   obtain⟨a,es,h1,h2,h3,h4,h5⟩:=hS.sd e
   refine L2.thn (aS hN hv hd hcd pins s σ H (fun v' H'=>v'= .ref a∧H'=H) I ⟨.ref a,h1,rfl,rfl⟩) fun z s1 hz_=> ?_
   obtain⟨v',H',I1,r1,e1,e2⟩:=hz_
   subst e1;subst e2
   cases r1
   obtain⟨hz,hln,_⟩:=mK I1 hG h3 h4 h5
   obtain⟨⟨z,l,o,ar,xs,ho,he,hdat,har,hx⟩,_,_⟩:=I1.hok a _ h3
   have sz:ar.size=es.2.length:=by rw [←Array.length_toList,har,List.length_map, ←Paired.length hx]
   refine mP hz ho he hdat ?_
   refine⟨s1.heap.objs.size,[s1.heap.objs.size],_,_,H',rfl,I1.kept (t':=s1.toks) fun b o e=>Heap.get?_push_of_some _ e,gA a _ es.1 es.2.length,⟨_,Heap.get?_push_size _ rfl,rfl,by rw [sz];rfl⟩,fun b hb=> ?_,hw _ G H' (Step.refl hG) (o7 h2 h4)⟩
   have e:b=s1.heap.objs.size:=by simpa using hb
   subst e
   exact I1.fpOk (Nat.le_refl _) (I1.hok.fresh (Nat.le_refl _))
end
theorem aU {l:List Expr} {a:Expr} (h:one l=some a):l=[a]:=by
 unfold one at h
 split at h
 ·cases h;rfl
 ·cases h
theorem dW {l:List Expr} {a b:Expr} (h:two l=some (a,b)):l=[a,b]:=by
 unfold two at h
 split at h
 ·cases h;rfl
 ·cases h
theorem aF {e:Expr} {x:Str} {p:Pos} (h:vName e=some (x,p)):e= .Name x p:=by
 cases e<;>first | (cases h;rfl) | (cases h;done)
theorem o8 {e:Expr} (h:vName e=none): ∀ x p,e≠ .Name x p:=fun x p z=>by subst z;cases h
theorem mR {e:Expr} {es:List Expr} {k:Nat} {p:Pos} (h:vTup e=some (es,k,p)):e= .Tuple es k p:=by
 cases e<;>first | (cases h;rfl) | (cases h;done)
theorem mS {e:Expr} {lo hi:Option Expr} (h:vSlice e=some (lo,hi)): ∃ p,e= .Slice lo hi none p:=by
 cases e<;>try (cases h;done)
 rename_i a b c p
 cases c with
 | none=>cases h;exact⟨p,rfl⟩
 | some c=>cases h
theorem o9 {e:Expr} {t t':Str} (h:vTup2 e=some (t,t')): ∃ j p p1 p2,e= .Tuple [.Name t p1, .Name t' p2] j p:=by
 unfold vTup2 at h
 have hx:=zBd h
 clear h
 obtain⟨⟨es,j,p⟩,h1,h⟩:=hx
 cases mR h1
 have hx:=zBd h
 clear h
 obtain⟨⟨u,v⟩,h2,h⟩:=hx
 cases dW h2
 have hx:=zBd h
 clear h
 obtain⟨⟨x,p1⟩,h3,h⟩:=hx
 cases aF h3
 have hx:=zMd h
 clear h
 obtain⟨⟨y,p2⟩,h4,h⟩:=hx
 cases aF h4
 cases h
 exact⟨j,p,p1,p2,rfl⟩
theorem xO {dE:Expr→Option F} {C:SK.Ctx} {a:Expr} {f:F} (h:rngOf dE C a=some f): ∃ x p b q,a= .Call (.Name x p) [b] [] q∧glo C x=some (.py .range)∧dE b=some f:=by
 unfold rngOf at h
 split at h
 ·rename_i f' as kws q
  split at h
  ·rename_i hk
   obtain⟨⟨x,p⟩,h1,h⟩:=zBd h
   obtain⟨b,h2,h⟩:=zBd h
   split at h
   ·rename_i e1 e2
    exact⟨x,p,b,q,by rw [aF h1,aU h2,List.isEmpty_iff.mp hk],e2,h⟩
   ·cases h
  ·cases h
 ·cases h
theorem pA {ks:List Keyword} {i:Int} (h:vDflt ks=some i): ∃ cj cp kp,ks=[⟨some "default", .Constant (.int i) cj cp,kp⟩]:=by
 unfold vDflt at h
 split at h
 ·rename_i x v kp
  split at h
  ·rename_i hx
   subst hx
   split at h
   ·rename_i c cj cp
    split at h
    ·cases h;exact⟨cj,cp,kp,rfl⟩
    ·cases h
   ·cases h
  ·cases h
 ·cases h
theorem pB {dL:Expr→Option F} {C:SK.Ctx} {f:Expr} {as:List Expr} {ks:List Keyword} {r:F} (h:denKw dL C f as ks=some r): ∃ x p a i g cj cp kp,f= .Name x p∧as=[a]∧ks=[⟨some "default", .Constant (.int i) cj cp,kp⟩]∧glo C x=some (.py .max)∧dL a=some g∧r=rCall (dMaxD i) [g]:=by
 unfold denKw at h
 obtain⟨⟨x,p⟩,h1,h⟩:=zBd h
 obtain⟨a,h2,h⟩:=zBd h
 obtain⟨i,h3,h⟩:=zBd h
 obtain⟨cj,cp,kp,rfl⟩:=pA h3
 split at h
 ·rename_i e1 e2
  obtain⟨g,h4,rfl⟩:=zMd h
  exact⟨x,p,a,i,g,cj,cp,kp,aF h1,aU h2,rfl,e2,h4,rfl⟩
 ·cases h
theorem bH {α:Type} {l:List α} (h:l.isEmpty=true):l=[]:=List.isEmpty_iff.mp h
noncomputable def notSt:Expr→Prop
 | .Starred _ _=>False
 | _=>True
theorem aB {e:Expr} {es:List Expr} {env:PySem.Env} (h:notSt e):starEach (e::es) env=(false,eval e env)::starEach es env:=by
 cases e<;>first | rfl | exact h.elim
noncomputable def notSet:Expr→Prop
 | .Set _ _ _=>False
 | _=>True
theorem mT {C:SK.Ctx} {e:Expr} {i:Nat} (h:dnN C e=some i): ∃ x p,e= .Name x p∧loc C x=some i:=by
 unfold dnN at h
 obtain⟨⟨x,p⟩,h1,h2⟩:=zBd h
 cases aF h1
 have h3:(if C.bs.contains (dcName x)=true then loc C x else none)=some i:=h2
 by_cases hc:C.bs.contains (dcName x)=true
 ·rw [if_pos hc] at h3
  exact⟨x,p,rfl,h3⟩
 ·rw [if_neg hc] at h3
  cases h3
theorem wV {C:SK.Ctx} {op:CmpOp} {e:Expr} {i:Nat} (h:inN C op e=some i): ∃ x p,e= .Name x p∧loc C x=some i:=by
 unfold inN at h
 split at h
 ·obtain⟨⟨x,p⟩,h1,h2⟩:=zBd h
  cases aF h1
  exact⟨x,p,rfl,h2⟩
 ·cases h
theorem bI {e:Expr} {op:CmpOp} (h:notSet e):behindInMarks op e=false:=by
 cases e<;>first | rfl | exact h.elim
theorem gB {b c:Expr} {op op':CmpOp} (h:notSet c):lastMarks [op,op'] [b,c]=false:=by
 show behindInMarks op' c=false
 exact bI h
theorem eX {e:Expr} (h: ∀ a b c d,e≠ .Slice a b c d):PlainIx e:=by
 intro o i
 cases e<;>first | rfl | exact absurd rfl (h _ _ _ _)
theorem aC {n:Nat} {C:SK.Ctx} {e:Expr} {f:F} (h:denE n C e=some f):notSt e∧notSet e∧ ∀ a b c d,e≠ .Slice a b c d:=by
 cases n with
 | zero=>cases h
 | succ n=>cases e<;>first | (cases h;done) | (refine⟨trivial,trivial, ?_⟩;intro a b c d z;cases z;done)
theorem aM {n:Nat} {C:SK.Ctx} {e:Expr} {f:F} (h:denL n C e=some f):notSt e∧notSet e:=by
 cases n with
 | zero=>cases h
 | succ n=>
  by_cases hn: ∃ x p,e= .Name x p
  ·obtain⟨x,p,rfl⟩:=hn
   exact⟨trivial,trivial⟩
  ·have:denE n C e=some f:=by
    rw [←h]
    cases e<;>first | rfl | exact absurd ⟨_,_,rfl⟩ hn
   exact⟨(aC this).1,(aC this).2.1⟩
theorem dX {n:Nat} {C:SK.Ctx} {tt:Bool} {e:Expr} {f:F} (h:denI n C tt e=some f):notSet e:=by
 cases n with
 | zero=>cases h
 | succ n=>cases e<;>first | trivial | exact(aM h).2
section
variable {ad:Ad}
def SndE (ad:Ad) (n:Nat):Prop:= ∀ (X:Cx) (C:SK.Ctx) (e:Expr) (f:F),CtxOk X ad C→denE n C e=some f→ME X ad e f∧MT X ad e f∧ ∀ op es p,e= .BoolOp op es p→MW X ad e f
def SndL (ad:Ad) (n:Nat):Prop:= ∀ (X:Cx) (C:SK.Ctx) (e:Expr) (f:F),CtxOk X ad C→denL n C e=some f→ML X ad e f
def SndI (ad:Ad) (n:Nat):Prop:= ∀ (X:Cx) (C:SK.Ctx) (tg e:Expr) (tt:Bool) (f:F),CtxOk X ad C→(tt=true→ ∃ es k p,tg= .Tuple es k p)→denI n C tt e=some f→MI X ad tg e f∧((∀ x p,e≠ .Name x p)→MIG X ad tg e f)
variable {X:Cx} {C:SK.Ctx} {n:Nat}
theorem j7 (hE:SndE ad n) (O:CtxOk X ad C): ∀ {es:List Expr} {fs:List F},mapO (denE n C) es=some fs→MA X ad es fs∧ ∀ e∈es,notSt e
 | [],fs,h=>by
  cases h
  exact⟨kU,fun _ h=>by cases h⟩
 | e::es,fs,h=>by
  unfold mapO at h
  cases e1:denE n C e with
  | none=>rw [e1] at h;cases h
  | some f=>
   rw [e1] at h
   obtain⟨r,h1,h2⟩:=zMd h
   subst h2
   obtain⟨q1,q2⟩:=j7 hE O h1
   have ns:=(aC e1).1
   exact⟨eP (hE X C e f O e1).1 q1 (aB ns),fun a ha=>by
    rcases List.mem_cons.mp ha with rfl | ha
    ·exact ns
    ·exact q2 a ha⟩
theorem bW {α β:Type} {f:α→Option β}: ∀ {l:List α} {r:List β},mapO f l=some r→r.length=l.length
 | [],r,h=>by cases h;rfl
 | x::l,r,h=>by
  unfold mapO at h
  cases e:f x with
  | none=>rw [e] at h;cases h
  | some y=>
   rw [e] at h
   obtain⟨r',h1,h2⟩:=zMd h
   subst h2
   simp [bW h1]
theorem cW {env:PySem.Env} {pos:Pos}: ∀ {es:List Expr},(∀ e∈es,notSt e)→(backTo pos (starEach es env)).any (·.1)=false
 | [],_=>rfl
 | e::es,h=>by
  rw [aB (h e (.head _))]
  show(false||(backTo pos (starEach es env)).any (·.1))=false
  rw [cW fun a ha=>h a (.tail _ ha)]
  rfl
theorem yD (hE:SndE ad n) (hL:SndL ad n) (O:CtxOk X ad C) {x:Str} {p:Py} {as:List Expr} {f:F} {np pos:Pos} (hg:glo C x=some (.py p)) (h:denPy (denE n C) (denL n C) C p as=some f):ME X ad (.Call (.Name x np) as [] pos) f:=by
 obtain⟨g1,g2,g3,g4⟩:=O.gl hg
 unfold denPy at h
 split at h
 ·have hx:=zBd h
  clear h
  obtain⟨a,h0,h⟩:=hx
  cases aU h0
  obtain⟨fa,h1,rfl⟩:=zMd h
  subst g3
  exact dI rL g1 g4 (by decide+kernel) (hL X C _ fa O h1) (by decide) g2 (aB (aM h1).1)
 ·have hx:=zBd h
  clear h
  obtain⟨a,h0,h⟩:=hx
  cases aU h0
  obtain⟨fa,h1,rfl⟩:=zMd h
  subst g3
  exact kW rM g1 g4 (by decide+kernel) (hL X C _ fa O h1) (by decide) g2 (aB (aM h1).1)
 ·have hx:=zBd h
  clear h
  obtain⟨a,h0,h⟩:=hx
  cases aU h0
  obtain⟨fa,h1,rfl⟩:=zMd h
  subst g3
  exact kW kX g1 g4 (by decide+kernel) (hL X C _ fa O h1) (by decide) g2 (aB (aM h1).1)
 ·have hx:=zBd h
  clear h
  obtain⟨a,h0,h⟩:=hx
  cases aU h0
  obtain⟨fa,h1,rfl⟩:=zMd h
  subst g3
  exact kW n5 g1 g4 (by decide+kernel) (hL X C _ fa O h1) (by decide) g2 (aB (aM h1).1)
 ·have hx:=zBd h
  clear h
  obtain⟨a,h0,h⟩:=hx
  cases aU h0
  obtain⟨fa,h1,rfl⟩:=zMd h
  subst g3
  exact dI (rN O.hd) g1 g4 (by decide+kernel) (hL X C _ fa O h1) (by decide) g2 (aB (aM h1).1)
 ·have hx:=zBd h
  clear h
  obtain⟨a,h0,h⟩:=hx
  cases aU h0
  obtain⟨fa,h1,rfl⟩:=zMd h
  subst g3
  exact dI (rO O.hd) g1 g4 (by decide+kernel) (hL X C _ fa O h1) (by decide) g2 (aB (aM h1).1)
 ·have hx:=zBd h
  clear h
  obtain⟨a,h0,h⟩:=hx
  cases aU h0
  obtain⟨fa,h1,rfl⟩:=zMd h
  subst g3
  exact dI (rP O.hd) g1 g4 (by decide+kernel) (hL X C _ fa O h1) (by decide) g2 (aB (aM h1).1)
 ·cases h
 ·cases h
 ·cases h
 ·split at h
  ·rename_i a
   obtain⟨fa,h1,rfl⟩:=zMd h
   subst g3
   exact dI (oO O.hd) g1 g4 (by decide+kernel) (hL X C _ fa O h1) (by decide) g2 (aB (aM h1).1)
  ·have hx:=zBd h
   clear h
   obtain⟨⟨a,b⟩,h0,h⟩:=hx
   cases dW h0
   obtain⟨fa,h1,h⟩:=zBd h
   obtain⟨fb,h2,rfl⟩:=zMd h
   subst g3
   exact jS (r:=dMax) (op:=fun i j=>if j > i then j else i) (fun _ _=>rfl) (fun x y Q E G H k=>by cases x<;>cases y<;>first | exact⟨_,_,rfl,rfl⟩ | exact k.elim) (kH O.calm) g1 g4 (by decide+kernel) (hE X C _ fa O h1).1 (hE X C _ fb O h2).1 (by decide) g2 (aB (aC h1).1) (aB (aC h2).1)
 ·have hx:=zBd h
  clear h
  obtain⟨⟨a,b⟩,h0,h⟩:=hx
  cases dW h0
  dsimp only at h
  split at h
  ·rename_i t t' hv
   obtain⟨j,p0,p1,p2,rfl⟩:=o9 hv
   have hx:=zBd h
   clear h
   obtain⟨fa,h1,h⟩:=hx
   obtain⟨g,h2,h⟩:=zBd h
   obtain⟨P,h3,h⟩:=zBd h
   obtain⟨g',h4,h⟩:=zBd h
   obtain⟨P',h5,rfl⟩:=zMd h
   subst g3
   obtain⟨cv,c1,c2⟩:=iY O h2 h3
   obtain⟨cv',c3,c4⟩:=iY O h4 h5
   exact oQ O.exc g1 g4 c1 c2 c3 c4 (hE X C _ fa O h1).1 (aB (aC h1).1)
  ·have hx:=zBd h
   clear h
   obtain⟨⟨tn,tp⟩,hv,h⟩:=hx
   cases aF hv
   obtain⟨fa,h1,h⟩:=zBd h
   obtain⟨g,h2,h⟩:=zBd h
   obtain⟨P,h3,rfl⟩:=zMd h
   subst g3
   obtain⟨cv,c1,c2⟩:=iY O h2 h3
   exact lU O.exc g1 g4 c1 c2 (hE X C _ fa O h1).1 (aB (aC h1).1)
 ·cases h
theorem val3 {e:Expr} {f:F} (h:ME X ad e f) (ht: ∀ whole,isTrue e X.env whole=(do let v←whole;standAt e.pos;holding [v] (truthy v))) (hb: ∀ op es p,e≠ .BoolOp op es p):ME X ad e f∧MT X ad e f∧ ∀ op es p,e= .BoolOp op es p→MW X ad e f:=
 ⟨h,p4 h ht,fun op es p z=>absurd z (hb op es p)⟩
theorem mU {e:Expr} {f:F} (h:MW X ad e f):MT X ad e f:=fun pins s σ H Q I t=>h _ pins s σ H Q I t
theorem mV {tg:Expr} {xs:List Str} {k:Nat} (h:tgNames tg=some (xs,k)):xs.length=(if k=0 then 1 else k)∧((k != 0)=true→ ∃ es j p,tg= .Tuple es j p):=by
 cases tg<;>try (cases h;done)
 ·cases h
  exact⟨rfl,fun z=>absurd z (by decide)⟩
 ·rename_i es j p
  unfold tgNames at h
  obtain⟨ys,e1,e2⟩:=zBd h
  by_cases hl:2≤ys.length
  ·rw [if_pos hl] at e2
   cases e2
   exact⟨by rw [if_neg (by omega)],fun _=>⟨es,j,p,rfl⟩⟩
  ·rw [if_neg hl] at e2
   cases e2
theorem eG (hE:SndE ad n) (hI:SndI ad n) (O:CtxOk X ad C) {elt tg it:Expr} {ifs:List Expr} {sc:Scope} {pos:Pos} {f:F} (h:denE (n+1) C (.ListComp elt [⟨tg,it,ifs,0⟩] sc pos)=some f):
  ∃ xs k cs fi fc fe,f=rComp k cs fi fc fe∧CompSc X C sc xs cs∧MI X ad tg it fi∧(∀ a b c,it≠ .Set a b c)∧xs.length=(if k=0 then 1 else k)∧(∀ fp s3 H3 pins',PG (cX X (xs++frees sc) sc s3 H3 fp pins') tg (gTg X.K k))∧
   (∀ fp s3 H3 pins',MTs (cX X (xs++frees sc) sc s3 H3 fp pins') ad ifs fc)∧ ∀ fp s3 H3 pins',ME (cX X (xs++frees sc) sc s3 H3 fp pins') ad elt fe:=by
 have h':((tgNames tg).bind fun(xs,k)=>(denI n C (k != 0) it).bind fun fi=>if compOk sc xs then
    (mapO (fun x=>capLoc C x) (frees sc)).bind fun cs=>(match ifs with
    | []=>some none
    | [c]=>(denE n { C with sc:=sc,N:=xs++frees sc } c).map some
    | _=>none).bind fun c=>(denE n { C with sc:=sc,N:=xs++frees sc } elt).map fun e=>rComp k cs fi c e
   else none)=some f:=h
 clear h
 obtain⟨⟨xs,k⟩,e1,h⟩:=zBd h'
 obtain⟨fi,e2,h⟩:=zBd h
 obtain⟨l1,l2⟩:=mV e1
 by_cases hc:compOk sc xs=true
 ·rw [if_pos hc] at h
  obtain⟨cs,e3,h⟩:=zBd h
  obtain⟨fc,e4,h⟩:=zBd h
  obtain⟨fe,e5,e6⟩:=zMd h
  obtain⟨c1,c2,c3,c4,c5,c6,c7⟩:=cI hc
  have inn: ∀ fp s3 H3 pins',CtxOk (cX X (xs++frees sc) sc s3 H3 fp pins') ad { C with sc:=sc,N:=xs++frees sc }:=fun fp s3 H3 pins'=>wF O hc e3
  refine⟨xs,k,cs,fi,fc,fe,e6.symm,lV O hc e3,(hI X C tg it _ fi O l2 e2).1,fun a b c z=> ?_,l1,fun fp s3 H3 pins'=> ?_,fun fp s3 H3 pins'=> ?_,fun fp s3 H3 pins'=>(hE _ _ elt fe (inn fp s3 H3 pins') e5).1⟩
  ·subst z
   exact dX e2
  ·by_cases hcel:cels sc=[]
   case neg=>
    rcases c2 with z | ⟨z,l⟩
    ·exact absurd z hcel
    ·obtain⟨x,rfl⟩:=List.length_eq_one_iff.mp l
     refine sM (X:=cX X ([x]++frees sc) sc s3 H3 fp pins') (x:=x) c5 e1 rfl rfl ?_ (decide_eq_true z)
     show(relabel sc X.env).names.lookup x=some .cell
     have e7:=aK (env:=X.env) (x:=x) (names:=sc.names)
     rw [c3 x (.head _),z] at e7
     exact e7
   refine yA (X:=cX X (xs++frees sc) sc s3 H3 fp pins') O.calm c5 e1 fun i x hx=>⟨?_, ?_⟩
   ·show(xs++frees sc)[i]? =some x
    rw [List.getElem?_append_left (List.getElem?_eq_some_iff.mp hx).1]
    exact hx
   ·show(relabel sc X.env).names.lookup x=some .local
    have e7:=aK (env:=X.env) (x:=x) (names:=sc.names)
    rw [c3 x (List.mem_of_getElem? hx),hcel] at e7
    exact e7
  ·split at e4
   ·cases e4
    trivial
   ·obtain⟨g,e8,rfl⟩:=zMd e4
    exact(hE _ _ _ g (inn fp s3 H3 pins') e8).2.1
   ·cases e4
 ·rw [if_neg hc] at h
  cases h
theorem yE (hE:SndE ad n) (hL:SndL ad n) (hI:SndI ad n):SndE ad (n+1):=by
 intro X C e f O h
 unfold denE at h
 split at h
 ·-- a name
  rename_i x pos
  refine val3 ?_ (fun _=>rfl) (fun _ _ _ z=>nomatch z)
  cases e1:loc C x with
  | some i=>
   rw [e1] at h
   cases h
   obtain⟨v1,v2,v3,v4⟩:=O.vis x i e1
   exact fN v1 v2 v3 v4
  | none=>
   rw [e1] at h
   simp only at h
   split at h
   ·rename_i d e2
    cases h
    obtain⟨g1,g2,u,v,g3,g4,g5⟩:=O.gl e2
    exact kR g1 g3 g4 g5 g2
   ·rename_i k0 n0 f0 e2
    cases h
    obtain⟨g1,g2,r,f,T,hr,hf⟩:=O.gl e2
    subst hf
    exact kR (v:= .ref (ad.fnA k0)) g1 T.mg rfl (fun G=>by unfold Rep;rfl) g2
   ·cases h
 ·obtain⟨d,h1,rfl⟩:=zMd h
  exact val3 (iI h1) (fun _=>rfl) (fun _ _ _ z=>nomatch z)
 ·obtain⟨fa,h1,h⟩:=zBd h
  obtain⟨fb,h2,rfl⟩:=zMd h
  exact val3 (pX (hE X C _ fa O h1).1 (hE X C _ fb O h2).1) (fun _=>rfl) (fun _ _ _ z=>nomatch z)
 ·obtain⟨fa,h1,h⟩:=zBd h
  obtain⟨q1,q2,_⟩:=hE X C _ fa O h1
  split at h
  ·cases h;exact⟨vM q1,p5 q2,fun _ _ _ z=>nomatch z⟩
  ·cases h;exact val3 (vN q1) (fun _=>rfl) (fun _ _ _ z=>nomatch z)
  ·cases h
 ·rename_i op es pos
  split at h
  ·rename_i a b
   obtain⟨fa,h1,h⟩:=zBd h
   obtain⟨fb,h2,rfl⟩:=zMd h
   obtain⟨q1,q2,_⟩:=hE X C _ fa O h1
   obtain⟨r1,r2,_⟩:=hE X C _ fb O h2
   cases op with
   | And=>
    have W:MW X ad (.BoolOp .And [a,b] pos) (rAnd fa fb):=p6 q2 (kS r2)
    exact⟨pY q1 (pZ r1),mU W,fun _ _ _ _=>W⟩
   | Or=>
    have W:MW X ad (.BoolOp .Or [a,b] pos) (rOr fa fb):=rJ q2 (kS r2)
    exact⟨vP q1 (pZ r1),mU W,fun _ _ _ _=>W⟩
  ·rename_i a b c r
   obtain⟨fa,h1,h⟩:=zBd h
   obtain⟨fb,h2,rfl⟩:=zMd h
   obtain⟨q1,q2,_⟩:=hE X C _ fa O h1
   obtain⟨r1,r2,r3⟩:=hE X C _ fb O h2
   cases op with
   | And=>
    have W:MW X ad (.BoolOp .And (a::b::c::r) pos) (rAnd fa fb):=p6 q2 (r3 _ _ _ rfl)
    exact⟨pY q1 r1,mU W,fun _ _ _ _=>W⟩
   | Or=>
    have W:MW X ad (.BoolOp .Or (a::b::c::r) pos) (rOr fa fb):=rJ q2 (r3 _ _ _ rfl)
    exact⟨vP q1 r1,mU W,fun _ _ _ _=>W⟩
  ·cases h
 ·split at h
  ·have hx:=zBd h
   clear h
   obtain⟨b,h0,h⟩:=hx
   cases aU h0
   obtain⟨fa,h1,h⟩:=zBd h
   have look: ∀ {e:Expr} {g:F},(if bsN C e=true then denL n C e else denE n C e)=some g→MLk X ad e g∧notSet e:=fun {e g} h=>by
    split at h
    ·exact⟨(hL X C _ g O h).lk,(aM h).2⟩
    ·exact⟨(hE X C _ g O h).1.look,(aC h).2.1⟩
   have la:=(look h1).1
   split at h
   ·rename_i i hi
    cases h
    obtain⟨x,p,rfl,e1⟩:=wV hi
    obtain⟨v1,v2,v3,v4⟩:=O.vis x i e1
    exact⟨wP v1 v2 v3 v4 O.un la (bI trivial),wQ v1 v2 v3 v4 O.un la (bI trivial),fun _ _ _ z=>nomatch z⟩
   ·obtain⟨fb,h2,rfl⟩:=zMd h
    obtain⟨lb,m⟩:=look h2
    exact⟨sX O.un la lb (bI m),sY O.un la lb (bI m),fun _ _ _ z=>nomatch z⟩
  ·have hx:=zBd h
   clear h
   obtain⟨⟨b,c⟩,h0,h⟩:=hx
   cases dW h0
   obtain⟨fa,h1,h⟩:=zBd h
   obtain⟨fb,h2,h⟩:=zBd h
   obtain⟨fc,h3,rfl⟩:=zMd h
   exact⟨nY O.un (hE X C _ fa O h1).1 (hE X C _ fb O h2).1 (hE X C _ fc O h3).1 (gB (aC h3).2.1),nZ O.un (hE X C _ fa O h1).1 (hE X C _ fb O h2).1 (hE X C _ fc O h3).1 (gB (aC h3).2.1),fun _ _ _ z=>nomatch z⟩
  ·cases h
 ·obtain⟨fc,h1,h⟩:=zBd h
  obtain⟨fa,h2,h⟩:=zBd h
  obtain⟨fb,h3,rfl⟩:=zMd h
  obtain⟨_,c2,_⟩:=hE X C _ fc O h1
  obtain⟨a1,a2,_⟩:=hE X C _ fa O h2
  obtain⟨b1,b2,_⟩:=hE X C _ fb O h3
  exact⟨n4 c2 a1 b1,oK c2 a2 b2,fun _ _ _ z=>nomatch z⟩
 ·split at h
  ·rename_i hl
   obtain⟨fs,h1,rfl⟩:=zMd h
   exact val3 (vT (j7 hE O h1).1 (by rw [bW h1];exact hl)) (fun _=>rfl) (fun _ _ _ z=>nomatch z)
  ·cases h
 ·split at h
  ·rename_i hl
   obtain⟨fs,h1,rfl⟩:=zMd h
   exact val3 (p7 (j7 hE O h1).1 (by rw [bW h1];exact hl)) (fun _=>rfl) (fun _ _ _ z=>nomatch z)
  ·cases h
 ·-- o[..]
  rename_i a b pos
  split at h
  ·rename_i i hi
   obtain⟨g,h2,rfl⟩:=zMd h
   obtain⟨x,p,rfl,e1⟩:=mT hi
   obtain⟨v1,v2,v3,v4⟩:=O.vis x i e1
   exact val3 (wT v1 v2 v3 v4 O.un (hE X C _ g O h2).1 (eX (aC h2).2.2)) (fun _=>rfl) (fun _ _ _ z=>nomatch z)
  have hx:=zBd h
  clear h
  obtain⟨fa,h1,h⟩:=hx
  split at h
  ·rename_i lo hi hv
   obtain⟨p,rfl⟩:=mS hv
   obtain⟨fl,h2,h⟩:=zBd h
   obtain⟨fh,h3,rfl⟩:=zMd h
   refine val3 (vW (hL X C _ fa O h1).lk ?_ ?_) (fun _=>rfl) (fun _ _ _ z=>nomatch z)
   ·split at h2
    ·cases h2;trivial
    ·obtain⟨k,h4,rfl⟩:=zMd h2
     exact(hE X C _ k O h4).1
   ·split at h3
    ·cases h3;trivial
    ·obtain⟨k,h4,rfl⟩:=zMd h3
     exact(hE X C _ k O h4).1
  ·obtain⟨fb,h2,rfl⟩:=zMd h
   exact val3 (vU (hL X C _ fa O h1).lk (hE X C _ fb O h2).1 (eX (aC h2).2.2)) (fun _=>rfl) (fun _ _ _ z=>nomatch z)
 ·-- a comprehension
  rename_i elt gens sc pos
  refine val3 ?_ (fun _=>rfl) (fun _ _ _ z=>nomatch z)
  split at h
  ·rename_i tg it ifs as
   split at h
   ·rename_i ha
    subst ha
    obtain⟨xs,k,cs,fi,fc,fe,rfl,S,hi,hset,hxs,hg,hts,he⟩:=eG (pos:=pos) hE hI O h
    exact rS O.calm S hi hset hxs hg hts he
   ·cases h
  ·cases h
 ·-- a call
  rename_i f' as kws pos
  refine val3 ?_ (fun _=>rfl) (fun _ _ _ z=>nomatch z)
  split at h
  ·rename_i hkw
   cases bH hkw
   split at h
   ·rename_i x np
    split at h
    ·rename_i i e1
     by_cases hem:as.isEmpty=true
     ·rw [if_pos hem] at h;cases h
     rw [if_neg hem] at h
     obtain⟨fs,h1,rfl⟩:=zMd h
     obtain⟨q1,q2⟩:=j7 hE O h1
     obtain⟨v1,v2,v3,v4⟩:=O.vis x i e1
     cases as with
     | nil=>exact absurd rfl hem
     | cons a es=>exact iQ O.fnv (fN v1 v2 v3 v4) q1 (aB (q2 a (.head _))) (cW fun e he=>q2 e (.tail _ he)) rfl
    ·split at h
     ·rename_i k1 k2 fn e2
      by_cases hem:as.isEmpty=true
      ·rw [if_pos hem] at h;cases h
      rw [if_neg hem] at h
      obtain⟨fs,h1,h⟩:=zBd h
      split at h
      ·rename_i hk
       cases h
       obtain⟨g1,g2,r,fa,T,hr,_⟩:=O.gl e2
       obtain⟨q1,q2⟩:=j7 hE O h1
       cases as with
       | nil=>exact absurd rfl hem
       | cons a es=>exact rQ T hr g1 g2 q1 hk (aB (q2 a (.head _))) (cW fun e he=>q2 e (.tail _ he))
      ·cases h
     ·rename_i p e2
      exact yD hE hL O e2 h
     ·cases h
   ·rename_i a b sp
    by_cases hem:as.isEmpty=true
    ·rw [if_pos hem] at h;cases h
    rw [if_neg hem] at h
    obtain⟨g,h1,h⟩:=zBd h
    obtain⟨fs,h2,rfl⟩:=zMd h
    obtain⟨q1,q2⟩:=j7 hE O h2
    cases as with
    | nil=>exact absurd rfl hem
    | cons a es=>exact iQ O.fnv (hE X C _ g O h1).1 q1 (aB (q2 a (.head _))) (cW fun e he=>q2 e (.tail _ he)) rfl
   ·rename_i o m ap
    split at h
    ·rename_i hem
     cases bH hem
     split at h
     ·rename_i hc
      obtain⟨rfl,h0,hl⟩:=hc
      obtain⟨fo,h1,rfl⟩:=zMd h
      refine sP (hE X C _ fo O h1).1 ?_ hl
      cases o<;>first | rfl | (cases h0;done)
     ·cases h
    have hx:=zBd h
    clear h
    obtain⟨a,h0,h⟩:=hx
    cases aU h0
    split at h
    ·rename_i hc
     rw [Bool.and_eq_true] at hc
     obtain⟨fo,h1,h⟩:=zBd h
     obtain⟨fa,h2,h⟩:=zBd h
     have base: ∀ m,attributeBase o m X.env (eval o X.env)=eval o X.env:=by
      intro m
      have h0:=hc.1
      cases o<;>first | rfl | (cases h0;done)
     split at h
     ·rename_i hm
      cases h
      subst hm
      exact iZ O.un (hL X C _ fo O h1) (hE X C _ fa O h2).1 (aB (aC h2).1) (base _) hc.2
     ·split at h
      ·rename_i hm
       cases h
       subst hm
       exact i0 O.un (hL X C _ fo O h1) (hE X C _ fa O h2).1 (aB (aC h2).1) (base _) hc.2
      ·cases h
    ·cases h
   ·cases h
  ·obtain⟨x,p,a,i,g,cj,cp,kp,rfl,rfl,rfl,e1,e2,rfl⟩:=pB h
   obtain⟨r1,r2,r3,r4⟩:=O.gl e1
   subst r3
   exact sU r1 r4 O.hd (hL X C _ g O e2) (aB (aM e2).1)
 ·cases h
theorem yF (hE:SndE ad n):SndL ad (n+1):=by
 intro X C e f O h
 unfold denL at h
 split at h
 ·rename_i x p
  cases e1:loc C x with
  | some i=>
   rw [e1] at h
   cases h
   obtain⟨v1,v2,v3,v4⟩:=O.vis x i e1
   exact gX v1 v2 v3 v4
  | none=>
   rw [e1] at h
   exact(hE X C _ f O h).1.ml
 ·exact(hE X C _ f O h).1.ml
theorem tH (hE: ∀ m,m<n→SndE ad m) {X:Cx} {C:SK.Ctx} {e:Expr} {f:F} (O:CtxOk X ad C) (hn: ∀ x p,e≠ .Name x p) (h:denL n C e=some f):ME X ad e f:=by
 cases n with
 | zero=>cases h
 | succ n=>
  have:denE n C e=some f:=by
   rw [←h]
   cases e<;>first | rfl | exact absurd rfl (hn _ _)
  exact(hE n (Nat.lt_succ_self _) X C e f O this).1
theorem yG (hE: ∀ m,m<n+1→SndE ad m) (hL:SndL ad n):SndI ad (n+1):=by
 intro X C tg e tt f O htt h
 have hEn:=hE n (Nat.lt_succ_self _)
 unfold denI at h
 have it: ∀ {x:Str} {as:List Expr} {np q:Pos},denIt (denE n C) C tt x as=some f→MI X ad tg (.Call (.Name x np) as [] q) f∧MIG X ad tg (.Call (.Name x np) as [] q) f:=by
  intro x as np q h
  unfold denIt at h
  split at h
  ·rename_i a eg
   obtain⟨fa,h1,rfl⟩:=zMd h
   obtain⟨g1,g2,g3,g4⟩:=O.gl eg
   subst g3
   have me:=(hEn X C _ fa O h1).1
   exact⟨oA g1 g4 me (aB (aC h1).1),lL g1 g4 me (aB (aC h1).1)⟩
  ·rename_i a eg
   split at h
   ·rename_i ht
    obtain⟨fa,h1,rfl⟩:=zMd h
    obtain⟨g1,g2,g3,g4⟩:=O.gl eg
    subst g3
    obtain⟨es,k,p,rfl⟩:=htt ht
    have ma:=(hEn X C _ fa O h1).1
    exact⟨sO g1 g4 ma (aB (aC h1).1),oJ g1 g4 ma (aB (aC h1).1)⟩
   ·cases h
  ·cases h
 split at h
 ·rename_i f' as kws q
  split at h
  ·rename_i x p
   split at h
   ·exact⟨(it h).1,fun _=>(it h).2⟩
   ·exact⟨(it h).1,fun _=>(it h).2⟩
   ·exact⟨(it h).1,fun _=>(it h).2⟩
   ·have me:=(hEn X C _ f O h).1
    exact⟨iT me.ml,fun _=>dO me⟩
  ·have me:=(hEn X C _ f O h).1
   exact⟨iT me.ml,fun _=>dO me⟩
 ·split at h
  ·rename_i i hi
   cases h
   obtain⟨x,p,rfl,e1⟩:=mT hi
   obtain⟨v1,v2,v3,v4⟩:=O.vis x i e1
   exact⟨tG v1 v2 v3 v4,fun hn=>absurd rfl (hn x p)⟩
  ·refine⟨iT (hL X C _ f O h),fun hn=>dO (tH (fun m hm=>hE m (by omega)) O hn h)⟩
theorem dY: ∀ n,SndE ad n∧SndL ad n∧SndI ad n:=by
 have main: ∀ n, ∀ m,m≤n→SndE ad m∧SndL ad m∧SndI ad m:=by
  intro n
  induction n with
  | zero=>
   intro m hm
   have:m=0:=by omega
   subst this
   refine⟨?_, ?_, ?_⟩
   ·intro X C e f O h
    unfold denE at h
    cases h
   ·intro X C e f O h
    unfold denL at h
    cases h
   ·intro X C tg e tt f O _ h
    unfold denI at h
    cases h
  | succ n ih=>
   intro m hm
   by_cases hmn:m≤n
   ·exact ih m hmn
   ·have:m=n+1:=by omega
    subst this
    obtain⟨a,b,c⟩:=ih n (Nat.le_refl _)
    exact⟨yE a b c,yF a,yG (fun m hm=>(ih m (by omega)).1) b⟩
 exact fun n=>main n n (Nat.le_refl _)
end
noncomputable abbrev vErr:List Value:=[.type "ValueError", .type "Exception", .type "BaseException", .type "object"]
structure StOk (X:Cx) (ad:Ad) (C:SK.Ctx):Prop where
 cx:CtxOk X ad C
 fn: ∀ x,X.fn x=true
 sc:X.env.scope=C.sc
 lc: ∀ x i,loc C x=some i→Loc X.env.scope x
 exm: ∀ c,exmOne X.K (.ref (ad.cls c)) (.ref (ad.cls 0))=some true
 exi: ∀ c,excIn X.K (ad.cls c) vErr "ValueError.__new__"=true
noncomputable def Zt (ad:Ad) (E₀:XK) (t:Bool):(St→Nat→Hp→Prop)→Prop:=fun E=>t=false→ ∀ σ c H,E σ c H→E₀ (.ref (ad.cls c)) none H
section
variable {X:Cx} {ad:Ad} {C:SK.Ctx} {E₀:XK} {t:Bool} {e it tg:Expr} {f:F} {g h:FS} {x:Str} {i:Nat} {pos pos':Pos} {st:Stmt}
theorem StOk.nm (O:StOk X ad C) (h:loc C x=some i):NmOk X x i:=⟨(O.cx.vis x i h).1,O.lc x i h, .inl (O.fn x)⟩
theorem StOk.nms (O:StOk X ad C): ∀ {xs:List Str} {is:List Nat},mapO (fun x=>loc C x) xs=some is→NmsOk X xs is
 | [],_,h=>by cases h;exact .nil
 | x::xs,is,h=>by
  unfold mapO at h
  cases e:loc C x with
  | none=>rw [e] at h;cases h
  | some j=>
   rw [e] at h
   obtain⟨r,h1,h2⟩:=zMd h
   subst h2
   exact .cons (O.nm e) (O.nms h1)
theorem j8 {elt:Expr} {gens:List Comprehension} {sc:Scope} {cpos:Pos} {line:Nat} {env:PySem.Env}: ∃ b,swapsWith (.ListComp elt gens sc cpos) (some (.Name x pos')) line env=pure b:=⟨_,rfl⟩
theorem qK (O:StOk X ad C) (h:denE 50 C e=some f) (hi:loc C x=some i):PS X (.Assign [.Name x pos'] e pos) (tAsg (tE X ad f) (gName i)):=by
 obtain⟨h1,h2,h3⟩:=dY (ad:=ad) 49
 obtain⟨k1,_,_⟩:=dY (ad:=ad) 50
 have nm:=O.nm hi
 have me:=(k1 X C e f O.cx h).1
 by_cases hc: ∃ elt gens sc cpos,e= .ListComp elt gens sc cpos
 ·obtain⟨elt,gens,sc,cpos,rfl⟩:=hc
  obtain⟨b,hb⟩:=j8 (x:=x) (pos':=pos') (elt:=elt) (gens:=gens) (sc:=sc) (cpos:=cpos) (line:=pos.line) (env:=X.env)
  cases b with
  | false=>exact iE O.cx.nd nm.1 nm.2.1 me hb nm.2.2
  | true=>
   have hgen: ∃ tg it ifs,gens=[⟨tg,it,ifs,0⟩]:=by
    unfold denE at h
    simp only at h
    split at h
    ·rename_i tg it ifs as
     split at h
     ·rename_i ha
      subst ha
      exact⟨_,_,_,rfl⟩
     ·cases h
    ·cases h
   obtain⟨tg,it,ifs,rfl⟩:=hgen
   obtain⟨xs,k,cs,fi,fc,fe,rfl,S,hi',hset,hxs,hg,hts,he⟩:=eG h1 h3 O.cx h
   exact sH O.cx.nd nm O.cx.calm S hi' hset hxs hg hts he hb
 ·refine iE O.cx.nd nm.1 nm.2.1 me ?_ nm.2.2
  have nf:=aC h
  cases e<;>first | rfl | exact absurd ⟨_,_,_,_,rfl⟩ hc | (unfold denE at h;cases h;done)
theorem tJ {e:Expr} (h:isD0 e=true): ∃ p,e= .Dict [] [] p:=by
 cases e<;>try (cases h;done)
 rename_i ks vs p
 have h':(ks.isEmpty&&vs.isEmpty)=true:=h
 rw [Bool.and_eq_true,List.isEmpty_iff,List.isEmpty_iff] at h'
 exact⟨p,by rw [h'.1,h'.2]⟩
theorem mW {Z:(St→Nat→Hp→Prop)→Prop} (P:PS X st (tAsg (tE X ad f) (gName i))):MS X ad Z st (sSet i f):=by
 refine PS.imp P ?_
 rintro D' σ H ⟨G₀,G,ρ,E,S,hx,hr⟩
 exact aT S hx hr fun v d G1 H1 st r k=>k _ G1 H1 ((S.step st).set r)
theorem tK {Z:(St→Nat→Hp→Prop)→Prop} (P:PS X st (tAsg (tE X ad f) (gName i))):MS X ad Z st (sOwn i f):=by
 refine PS.imp P ?_
 rintro D' σ H ⟨G₀,G,ρ,E,S,hx,hr⟩
 exact qA S hx hr
noncomputable def gLstN (K:PySem.W.Frag) (n:Nat) (t:TGs):TG:=fun v σ H Q=> ∃ a xs,v= .ref a∧SqL K H a xs∧xs.length=n∧t xs σ H Q
theorem tM {es:List Expr} {k:Nat} {t:TGs} {n:Nat} (hc:X.calm=true) (h:PGs X es t) (hn:(assignEach es X.env).length=n) (hst:(assignEach es X.env).findIdx? (·.1)=none):PG X (.Tuple es k pos) (gLstN X.K n t):=by
 intro pins s σ H v u Q I r hw
 obtain⟨a,xs,e1,hq,hl,hw⟩:=hw
 subst e1
 cases r
 obtain⟨its,rv,ht,hz⟩:=I.list hq
 have hlen:its.toArray.size=n:=by simp [←hl,rv.length]
 rw [assign_Tuple]
 refine wpAny_bind (wpAny_standAt ?_)
 unfold unpack
 rw [hn,hst, ←hlen]
 refine wpAny_bind (wpAny_holding (kun_itemsOf (I.ok.hd hc) ht.isList fun h' hx=> ?_))
 have I1:Inv X pins σ H { s with heap:=h' }:=I.kept (t':=s.toks) fun b o e=>hx b o (Nat.ne_of_lt (Heap.lt_size e)) e
 exact h pins _ σ H xs _ Q I1 (by simpa using rv) hw
theorem yH {g1 g2:TG} (h1:PG X tg g1) (h2:PG X tg g2):PG X tg (fun v σ H Q=>g1 v σ H Q∨g2 v σ H Q):=by
 intro pins s σ H v u Q I r h
 rcases h with h | h
 ·exact h1 pins s σ H v u Q I r h
 ·exact h2 pins s σ H v u Q I r h
theorem mX {Z:(St→Nat→Hp→Prop)→Prop} {es:List Expr} {k j:Nat} {tp:Pos} {xs:List Str} {is:List Nat} (O:StOk X ad C) (he:ME X ad e f) (hs:swapsWithSole [.Tuple es j tp] e pos.line X.env=pure false) (hw:swappedStores [.Tuple es j tp] e X.env=pure none) (ht:tgNames (.Tuple es j tp)=some (xs,k)) (hn:NmsOk X xs is):MS X ad Z (.Assign [.Tuple es j tp] e pos) (sSetN is f):=by
 obtain⟨P,hk⟩:=sE O.cx.calm O.cx.nd ht hn
 have k0:k≠0:=by
  unfold tgNames at ht
  obtain⟨ys,e1,e2⟩:=zBd ht
  by_cases hl:2≤ys.length
  ·rw [if_pos hl] at e2
   cases e2
   omega
  ·rw [if_neg hl] at e2
   cases e2
 have hb:(k==0)=false:=by simpa using k0
 have PL:PG X (.Tuple es j tp) (gLstN X.K is.length (gIs is)):=by
  unfold tgNames at ht
  obtain⟨ys,e1,e2⟩:=zBd ht
  by_cases hl:2≤ys.length
  ·rw [if_pos hl] at e2
   cases e2
   obtain⟨q1,q2⟩:=cH (X:=X) e1
   exact tM O.cx.calm (lN O.cx.nd e1 hn) (by rw [q1,hn.len]) q2
  ·rw [if_neg hl] at e2
   cases e2
 refine PS.imp (pO he (yH P PL) hs hw rfl) ?_
 rintro D' σ H ⟨G₀,G,ρ,E,S,hx,hr⟩
 unfold sSetN at hr
 refine aT S hx hr fun v d G1 H1 st r q=> ?_
 cases d<;>try exact False.elim q
 case lst ds=>
  have q':OKo X ad G₀ (if ds.length=is.length then .nx (setN is ds ρ) else .rt .bad) D' E:=q
  by_cases hl:ds.length=is.length
  ·rw [if_pos hl] at q'
   unfold Rep at r
   obtain⟨a,vs,rfl,hq,rq⟩:=r
   exact .inr ⟨a,vs,rfl,st.gh.seq hq,by rw [rq.length,hl],lM (by rw [rq.length,hl]) (q' _ G1 H1 ((S.step st).setN rq))⟩
  ·rw [if_neg hl] at q'
   exact q'.elim
 rename_i ds
 refine .inl ?_
 have q':OKo X ad G₀ (if ds.length=is.length then .nx (setN is ds ρ) else .rt .bad) D' E:=q
 by_cases hl:ds.length=is.length
 ·rw [if_pos hl] at q'
  refine qC (ρ1:=setN is ds ρ) hk ?_ (S.step st) r fun σ1 S1=>q' σ1 G1 H1 S1
  rw [hb]
  have e0:tgtS is false (.tup ds) ρ=if ds.length=is.length then some (setN is ds ρ) else none:=by
   cases is with
   | nil=>rfl
   | cons _ _=>rfl
  rw [e0,if_pos hl]
 ·rw [if_neg hl] at q'
  exact q'.elim
theorem gC {env:PySem.Env} {x y:Str} {px py pt pt2:Pos} {a b:Expr} {kt k2:Nat} {p q:Prop} (h:((env.scope.names.lookup x=some .cell∨env.scope.names.lookup y=some .cell)∧p)∧q):swappedStores [.Tuple [.Name x px, .Name y py] kt pt] (.Tuple [a,b] k2 pt2) env=pure none:=by
 unfold swappedStores
 have kx:env.kindOf x=env.scope.names.lookup x:=rfl
 have ky:env.kindOf y=env.scope.names.lookup y:=rfl
 rcases h.1.1 with e | e
 ·simp [kx,ky,e,List.filterMap,Expr.pos]
  intro _ _ _ h2
  exfalso;revert h2
  (repeat' split)<;>simp
 ·simp [kx,ky,e,List.filterMap,Expr.pos]
  intro _ _ _ h2
  exfalso;revert h2
  (repeat' split)<;>simp
theorem hZ {env:PySem.Env} {x y:Str} {px py pt pt2:Pos} {a b:Expr} {kt k2:Nat} (hb:env.scope.kind= .function) (hx:env.scope.names.lookup x=some .local) (hy:env.scope.names.lookup y=some .local) (hne:x≠y) (hl:px.line=py.line)
  (sa:notSt a) (sb:notSt b) (h1:[a,b].all (foldedForSure 8)=false) (h2:[a,b].all (constantsAlone 8)=false):swappedStores [.Tuple [.Name x px, .Name y py] kt pt] (.Tuple [a,b] k2 pt2) env=pure (some [x,y]):=by
 have hbk:env.blockKind= .function:=by unfold PySem.Env.blockKind;rw [hb];rfl
 have kx:env.kindOf x=some .local:=hx
 have ky:env.kindOf y=some .local:=hy
 have nd:[x,y].eraseDups.length=2:=by
  have:(y==x)=false:=by simpa using fun z=>hne z.symm
  simp [List.eraseDups_cons,this]
 have h1': ¬ (foldedForSure 8 a=true∧foldedForSure 8 b=true):=fun⟨p,q⟩=>by simp [p,q] at h1
 have h2': ¬ (constantsAlone 8 a=true∧constantsAlone 8 b=true):=fun⟨p,q⟩=>by simp [p,q] at h2
 unfold swappedStores
 simp [Expr.pos,kx,ky, ←hl,hbk,nd,h1',h2',List.filterMap]
 intro h
 rcases h with h | h
 ·cases a<;>first | exact sa.elim | cases h
 ·cases b<;>first | exact sb.elim | cases h
theorem pC {i j:Nat} {fa fb:F} {ρ:Rho}:sSetN [i,j] (rTup [fa,fb]) ρ=outR ρ (fa ρ) fun x=>outR ρ (fb ρ) fun y=> .nx ((ρ.set i (.sh x)).set j (.sh y)):=by
 unfold sSetN rTup rAll args args args
 cases fa ρ<;>simp [outR,RA.then]<;>cases fb ρ<;>simp [RA.cons,setN]
theorem wW {Z:(St→Nat→Hp→Prop)→Prop} {a b:Expr} {fa fb:F} {i j kt k2:Nat} {y:Str} {px py pt pt2:Pos} (O:StOk X ad C) (ha:ME X ad a fa) (hb:ME X ad b fb) (sa:notSt a) (sb:notSt b) (hi:loc C x=some i) (hj:loc C y=some j) (ok:parOk C x y px py a b=true):
  MS X ad Z (.Assign [.Tuple [.Name x px, .Name y py] kt pt] (.Tuple [a,b] k2 pt2) pos) (sSetN [i,j] (rTup [fa,fb])):=by
 unfold parOk at ok
 simp only [Bool.and_eq_true,Bool.not_eq_true'] at ok
 obtain⟨⟨⟨⟨⟨⟨⟨o1,o2⟩,o3⟩,o4⟩,o5⟩,o6⟩,_⟩,_⟩:=ok
 have l1:X.env.scope.names.lookup x=some .local:=by rw [O.sc];exact aL o1
 have l2:X.env.scope.names.lookup y=some .local:=by rw [O.sc];exact aL o2
 have hne:x≠y:=by simpa using o3
 have nx:=(O.cx.vis x i hi).1
 have ny:=(O.cx.vis y j hj).1
 have hij:i≠j:=fun z=>by subst z;rw [nx] at ny;exact hne (Option.some.inj ny)
 intro pins s σ H D' I ⟨G₀,G,ρ,E,S,hx,hr⟩
 refine uX (ta:=tCons (tE X ad fa) (tCons (tE X ad fb) tNil)) O.cx.calm O.cx.nd nx ny hij l1 l2 (aQ ha (aQ hb bA (aB sb)) (aB sa)) (hZ I.ok.kind l1 l2 hne (by simpa using o4) sa sb o5 o6) rfl pins s σ H D' I ?_
 rw [pC] at hr
 show tE X ad fa σ H fun v H1=>tE X ad fb σ H1 fun w H2=> ∃ v' w',[v,w]=[v',w']∧D'.nx ((σ.set i (some v')).set j (some w')) H2
 exact aT S hx hr fun v d G1 H1 st r k=>aT (S.step st) hx k fun w d2 G2 H2 st2 r2 k2=>⟨v,w,rfl,k2 _ G2 H2 ((((S.step st).step st2).set (r.mono st2.sg)).set r2)⟩
theorem tN {op:Operator} (h:addB op=true):op= .Add:=by
 cases op<;>first | rfl | (cases h;done)
theorem mY {op:Operator} (h:addsub op=true):op= .Add∨op= .Sub:=by
 cases op<;>first | exact .inl rfl | exact .inr rfl | (cases h;done)
theorem xP {pins:List (Addr×Obj)} {D':Ends} {hd:ExceptHandler} (O:StOk X ad C):StOk (tX X pins D' hd) ad C:=by
 refine⟨⟨O.cx.N,O.cx.nd,O.cx.vis,O.cx.gk,fun x g e=> ?_,O.cx.cap,O.cx.calm,O.cx.un,O.cx.hd,O.cx.exc,O.cx.kin,O.cx.kve,fun j n F e=>let ⟨r,T,hr⟩:=O.cx.fnv j n F e;⟨r,⟨T.kp,T.ok⟩,hr⟩⟩,O.fn,O.sc,O.lc,O.exm,O.exi⟩
 obtain⟨e1,e2⟩:=O.cx.gt x g e
 refine⟨e1, ?_⟩
 cases g with
 | fn k n F=>
  obtain⟨r,f,T,hr,hf⟩:=e2
  exact⟨r,f,⟨T.mg,T.kp,T.ok⟩,hr,hf⟩
 | exc c=>exact e2
 | verr=>exact e2
 | val d=>exact e2
 | py p=>exact e2
theorem tO {es:List Expr} {e a b:Expr} {x y:Str} {px py:Pos} (h:par2 es e=some ⟨x,px,y,py,a,b⟩): ∃ k p,es=[.Name x px, .Name y py]∧e= .Tuple [a,b] k p:=by
 unfold par2 at h
 obtain⟨⟨u,v⟩,h1,h⟩:=zBd h
 obtain⟨⟨x',px'⟩,h2,h⟩:=zBd h
 obtain⟨⟨y',py'⟩,h3,h⟩:=zBd h
 obtain⟨⟨vs,k,p⟩,h4,h⟩:=zBd h
 obtain⟨⟨a',b'⟩,h5,h6⟩:=zMd h
 cases h6
 rw [dW h1,aF h2,aF h3,mR h4,dW h5]
 exact⟨k,p,rfl,rfl⟩
theorem pD {e:Expr} (h:isStr e=true): ∃ s k p,e= .Constant (.str s) k p:=by
 cases e<;>try (cases h;done)
 rename_i c k p
 cases c<;>try (cases h;done)
 exact⟨_,k,p,rfl⟩
def SndS (ad:Ad) (E₀:XK) (n:Nat):Prop:= ∀ (X:Cx) (C:SK.Ctx) (t:Bool) (s:Stmt) (g:FS),StOk X ad C→(t=false→DefX X E₀∧PassesOwn (model X.prog X.w) X.A X.env X.xe)→denS n t C s=some g→MS X ad (Zt ad E₀ t) s g
def SndSs (ad:Ad) (E₀:XK) (n:Nat):Prop:= ∀ (X:Cx) (C:SK.Ctx) (t:Bool) (s:List Stmt) (g:FS),StOk X ad C→(t=false→DefX X E₀∧PassesOwn (model X.prog X.w) X.A X.env X.xe)→denSs n t C s=some g→MSs X ad (Zt ad E₀ t) s g
theorem Zt.imp {Z Z':(St→Nat→Hp→Prop)→Prop} (h:MS X ad Z st g) (k: ∀ E,Z' E→Z E):MS X ad Z' st g:=PS.imp h fun D' σ H ⟨G₀,G,ρ,E,S,hx,hr⟩=>⟨G₀,G,ρ,E,S,⟨hx.1,k E hx.2⟩,hr⟩
theorem Zts.imp {Z Z':(St→Nat→Hp→Prop)→Prop} {sts:List Stmt} (h:MSs X ad Z sts g) (k: ∀ E,Z' E→Z E):MSs X ad Z' sts g:=PSs.imp h fun D' σ H ⟨G₀,G,ρ,E,S,hx,hr⟩=>⟨G₀,G,ρ,E,S,⟨hx.1,k E hx.2⟩,hr⟩
theorem pE {b:List Stmt} {s:Stmt} (h:oneS b=some s):b=[s]:=by
 unfold oneS at h;split at h
 ·cases h;rfl
 ·cases h
theorem tP {s:Stmt} {z:Str} {e:Expr} (h:vExt s=some (z,e)): ∃ p ap cp pos,s= .Expr (.Call (.Attribute (.Name z p) "extend" ap) [e] [] cp) pos∧(ap.endLine==cp.line)=true:=by
 unfold vExt at h
 split at h
 ·rename_i e0 pos
  split at h
  ·rename_i f as kws cp
   split at h
   ·rename_i hk
    split at h
    ·rename_i o m ap
     obtain⟨⟨z',p⟩,h1,h⟩:=zBd h
     obtain⟨e',h2,h⟩:=zBd h
     split at h
     ·rename_i hc
      cases h
      cases aF h1
      cases aU h2
      cases (List.isEmpty_iff.mp hk)
      exact⟨p,ap,cp,pos,by rw [hc.1],hc.2⟩
     ·cases h
    ·cases h
   ·cases h
  ·cases h
 ·cases h
theorem mZ {C:SK.Ctx} {tg it e:Expr} {b:List Stmt} {t i j:Nat} (h:forxOf C tg it b=some (t,i,j,e)): ∃ x px y py z p ap cp pos,tg= .Name x px∧it= .Name y py∧b=[.Expr (.Call (.Attribute (.Name z p) "extend" ap) [e] [] cp) pos]∧loc C x=some t∧loc C y=some i∧loc C z=some j∧t≠i∧i≠j∧(ap.endLine==cp.line)=true:=by
 unfold forxOf at h
 obtain⟨⟨x,px⟩,h1,h⟩:=zBd h
 obtain⟨⟨y,py⟩,h2,h⟩:=zBd h
 obtain⟨s,h3,h⟩:=zBd h
 obtain⟨⟨z,e'⟩,h4,h⟩:=zBd h
 obtain⟨t',h5,h⟩:=zBd h
 obtain⟨i',h6,h⟩:=zBd h
 obtain⟨j',h7,h⟩:=zBd h
 split at h
 ·rename_i hc
  cases h
  simp only [Bool.and_eq_true,bne_iff_ne] at hc
  obtain⟨p,ap,cp,pos,rfl,hl⟩:=tP h4
  exact⟨x,px,y,py,z,p,ap,cp,pos,aF h1,aF h2,pE h3,h5,h6,h7,hc.1.1.2,hc.1.2,hl⟩
 ·cases h
theorem yI {n:Nat} (hS:SndSs ad E₀ n):SndS ad E₀ (n+1):=by
 intro X C t s g O hd h
 obtain⟨kE,kL,kI⟩:=dY (ad:=ad) 50
 unfold denS at h
 split at h
 ·cases h;exact rX
 ·cases h;exact oB
 ·cases h;exact g0
 ·-- return
  split at h
  ·cases h;exact rZ
  ·split at h
   ·rename_i x p hv
    cases aF hv
    split at h
    ·rename_i i e1
     obtain⟨v1,v2,v3,v4⟩:=O.cx.vis x i e1
     split at h
     ·cases h;exact r8 v1 v2 v3 v4
     ·cases h;exact iV (fN v1 v2 v3 v4)
    ·obtain⟨f,h1,rfl⟩:=zMd h
     exact iV (kE X C _ f O.cx h1).1
   ·obtain⟨f,h1,rfl⟩:=zMd h
    exact aZ (iV (kE X C _ f O.cx h1).1)
 ·-- an assignment
  rename_i ts e pos
  have hx:=zBd h
  clear h
  obtain⟨tg,h0,h⟩:=hx
  cases aU h0
  split at h
  ·-- x=e
   obtain⟨i,h1,h⟩:=zBd h
   split at h
   ·rename_i hc
    cases h
    rw [Bool.and_eq_true] at hc
    obtain⟨dp,rfl⟩:=tJ hc.1
    have nm:=O.nm h1
    exact sW O.cx.nd nm.1 nm.2.1 rfl nm.2.2
   ·obtain⟨f,h2,rfl⟩:=zMd h
    refine aZ ?_
    split
    ·exact tK (qK O h2 h1)
    ·exact mW (qK O h2 h1)
  ·split at h
   ·-- a,b=x,y
    rename_i x px y py a b hp
    obtain⟨k2,tp2,rfl,rfl⟩:=tO hp
    split at h
    ·rename_i hok
     obtain⟨i,h1,h⟩:=zBd h
     obtain⟨j,h2,h⟩:=zBd h
     obtain⟨fa,h3,h⟩:=zBd h
     obtain⟨fb,h4,rfl⟩:=zMd h
     exact aZ (wW O (kE X C _ fa O.cx h3).1 (kE X C _ fb O.cx h4).1 (aC h3).1 (aC h4).1 h1 h2 hok)
    ·split at h
     ·rename_i hc
      obtain⟨i,h1,h⟩:=zBd h
      obtain⟨j,h2,h⟩:=zBd h
      obtain⟨f,h3,rfl⟩:=zMd h
      have hm:mapO (fun x=>loc C x) [x,y]=some [i,j]:=by simp [mapO,h1,h2]
      exact aZ (mX (xs:=[x,y]) (k:=2) O (kE X C _ f O.cx h3).1 rfl (gC (by rw [O.sc];simpa [parCell] using hc)) rfl (O.nms hm))
     ·cases h
   ·-- a,b=e
    obtain⟨u,h0,h⟩:=zBd h
    obtain⟨⟨xs,k⟩,h1,h⟩:=zBd h
    obtain⟨is,h2,h⟩:=zBd h
    split at h
    ·obtain⟨f,h3,rfl⟩:=zMd h
     have hf:callish e=true:=by
      split at h0
      ·assumption
      ·cases h0
     exact aZ (mX O (kE X C _ f O.cx h3).1 (by cases e<;>first | rfl | (cases hf;done)) (by cases e<;>first | rfl | (cases hf;done)) h1 (O.nms h2))
    ·cases h
  ·-- x[k]=e
   rename_i o k tp
   have hx:=zBd h
   clear h
   obtain⟨⟨x,p⟩,hv,h⟩:=hx
   cases aF hv
   obtain⟨i,h1,h⟩:=zBd h
   obtain⟨v1,v2,v3,v4⟩:=O.cx.vis x i h1
   split at h
   ·obtain⟨f,h2,h⟩:=zBd h
    obtain⟨g,h3,rfl⟩:=zMd h
    refine aZ (wO O.cx.un v1 v2 v3 v4 (kE X C _ f O.cx h2).1 (kE X C _ g O.cx h3).1 (fun v=> ?_) ?_ ?_)
    ·have ns:=(aC h3).2.2
     cases k<;>first | rfl | exact absurd rfl (ns _ _ _ _)
    ·cases e<;>rfl
    ·cases e<;>rfl
   ·cases h
  ·cases h
 ·-- x += e
  split at h
  ·rename_i o k tp
   have hx:=zBd h
   clear h
   obtain⟨⟨x,p⟩,hv,h⟩:=hx
   cases aF hv
   obtain⟨i,h1,h⟩:=zBd h
   obtain⟨v1,v2,v3,v4⟩:=O.cx.vis x i h1
   split at h
   ·rename_i hc
    obtain⟨f,h2,h⟩:=zBd h
    obtain⟨g,h3,rfl⟩:=zMd h
    cases tN (Bool.and_eq_true_iff.mp hc).2
    refine aZ (sF v1 v2 v3 v4 (kE X C _ f O.cx h2).1 (kE X C _ g O.cx h3).1 (fun _ _ _=> ?_))
    have ns:=(aC h3).2.2
    cases k<;>first | rfl | exact absurd rfl (ns _ _ _ _)
   ·cases h
  ·have hx:=zBd h
   clear h
   obtain⟨⟨x,p⟩,hv,h⟩:=hx
   cases aF hv
   obtain⟨u,h0,h⟩:=zBd h
   obtain⟨i,h1,h⟩:=zBd h
   obtain⟨f,h2,rfl⟩:=zMd h
   refine aZ (wB O.cx.nd (O.nm h1) (kE X C _ f O.cx h2).1 ?_)
   split at h0
   ·exact mY ‹_›
   ·cases h0
 ·-- an expression
  split at h
  ·rename_i f' as kws cp
   split at h
   ·rename_i hkw
    cases bH hkw
    split at h
    ·-- x.append(e)
     rename_i o m ap
     have hx:=zBd h
     clear h
     obtain⟨⟨x,p⟩,hv,h⟩:=hx
     cases aF hv
     have hx:=zBd h
     clear h
     obtain⟨e,ho,h⟩:=hx
     cases aU ho
     obtain⟨i,h1,h⟩:=zBd h
     obtain⟨v1,v2,v3,v4⟩:=O.cx.vis x i h1
     split at h
     ·rename_i hc
      rw [Bool.and_eq_true] at hc
      obtain⟨f,h2,h⟩:=zBd h
      have me:=(kE X C _ f O.cx h2).1
      have ns:=aB (es:=[]) (env:=X.env) (aC h2).1
      split at h
      ·rename_i hm
       cases h
       subst hm
       exact aZ (v7 v1 v2 v3 v4 me ns hc.2)
      ·split at h
       ·rename_i hm
        cases h
        subst hm
        exact aZ (v8 v1 v2 v3 v4 me ns hc.2)
       ·split at h
        ·rename_i hm
         cases h
         subst hm
         exact aZ (wR v1 v2 v3 v4 me ns hc.2)
        ·cases h
     ·cases h
    ·obtain⟨f,h1,rfl⟩:=zMd h
     exact aZ (sA (kE X C _ f O.cx h1).1 rfl)
    ·cases h
   ·cases h
  ·cases h
 ·obtain⟨f,h1,h⟩:=zBd h
  obtain⟨ga,h2,h⟩:=zBd h
  obtain⟨gb,h3,rfl⟩:=zMd h
  exact aZ (v6 (kE X C _ f O.cx h1).2.1 (hS X C t _ ga O hd h2) (hS X C t _ gb O hd h3))
 ·-- for
  rename_i tg it b els pos
  cases t with
  | true=>cases h
  | false=>
   cases els with
   | cons _ _=>cases h
   | nil=>
    simp only [Bool.false_or,List.isEmpty_nil,Bool.not_true,Bool.false_eq_true,if_false] at h
    split at h
    ·-- for x in o:p.extend(e)
     rename_i ti i j e hx
     obtain⟨f,h1,rfl⟩:=zMd h
     obtain⟨x,px,y,py,z,p,ap,cp,pos',rfl,rfl,rfl,a1,a2,a3,a4,a5,hl⟩:=mZ hx
     obtain⟨v1,v2,v3,v4⟩:=O.cx.vis _ _ a2
     obtain⟨w1,w2,w3,w4⟩:=O.cx.vis _ _ a3
     exact sI (hd rfl).2 O.cx.calm O.cx.nd v1 v2 v3 v4 w1 w2 w3 w4 (O.nm a1) a4 a5 (kE X C _ f O.cx h1).1 (aB (aC h1).1) hl
    obtain⟨⟨xs,k⟩,h1,h⟩:=zBd h
    obtain⟨f,h2,h⟩:=zBd h
    obtain⟨is,h3,h⟩:=zBd h
    split at h
    ·obtain⟨gb,h4,rfl⟩:=zMd h
     have mig:MIG X ad tg it f∧ ∀ a b c,it≠ .Set a b c:=by
      unfold denF at h2
      split at h2
      ·split at h2
       ·rename_i i hi
        cases h2
        obtain⟨x',p',e0,e1⟩:=mT hi
        cases e0
        obtain⟨v1,v2,v3,v4⟩:=O.cx.vis _ i e1
        exact⟨wU v1 v2 v3 v4 (dO (fN v1 v2 v3 v4)),fun _ _ _ z=>nomatch z⟩
       ·exact⟨dO (kE X C _ f O.cx h2).1,fun _ _ _ z=>nomatch z⟩
      ·rename_i hn
       exact⟨(kI X C tg _ _ f O.cx (mV h1).2 h2).2 (fun x p z=>hn x p z),fun a b c z=>by subst z;exact dX h2⟩
     exact aZ (v9 (hd rfl).2 O.cx.calm O.cx.nd mig.1 h1 (O.nms h3) (hS X C false _ gb O hd h4) (noSet mig.2))
    ·cases h
 ·-- while
  rename_i c b els pos
  cases t with
  | true=>cases h
  | false=>
   cases els with
   | cons _ _=>cases h
   | nil=>
    simp only [Bool.false_or,List.isEmpty_nil,Bool.not_true,Bool.false_eq_true,if_false] at h
    obtain⟨f,h1,h⟩:=zBd h
    obtain⟨gb,h2,rfl⟩:=zMd h
    exact aZ (oC (hd rfl).2 (kE X C _ f O.cx h1).2.1 (hS X C false _ gb O hd h2))
 ·-- raise
  rename_i x c pos
  cases t with
  | true=>cases h
  | false=>
   cases c with
   | some _=>cases h
   | none=>
    simp only [Bool.false_or,Option.isSome_none,Bool.false_eq_true,if_false] at h
    have hx:=zBd h
    clear h
    obtain⟨e,rfl,h⟩:=hx
    split at h
    ·rename_i f' as kws cp
     split at h
     ·rename_i hkw
      cases bH hkw
      have hx:=zBd h
      clear h
      obtain⟨⟨x,p⟩,hv,h⟩:=hx
      cases aF hv
      have hx:=zBd h
      clear h
      obtain⟨a,ho,h⟩:=hx
      cases aU ho
      split at h
      ·rename_i hstr
       obtain⟨sx,k1,k2,rfl⟩:=pD hstr
       split at h
       ·rename_i c e1 e2
        cases h
        obtain⟨g1,g2,g3,g4⟩:=O.cx.gl e2
        exact Zt.imp (oH (hd rfl).1 O.cx.calm g1 g3 g2 (O.exi c)) fun E z=>z rfl
       ·cases h
      ·cases h
     ·cases h
    ·cases h
 ·cases h
theorem wX {n:Nat} (hS:SndS ad E₀ n) (hSs:SndSs ad E₀ n):SndSs ad E₀ (n+1):=by
 intro X C t s g O hd h
 have hB: ∀ a:Stmt,MS X ad (Zt ad E₀ t) a ((denS n t C a).getD sBad):=fun a=>by
  cases e:denS n t C a with
  | none=>exact wA
  | some f=>exact hS X C t a f O hd e
 unfold denSs at h
 split at h
 ·cases h;exact g8
 ·cases h;exact rY (hB _)
 ·obtain⟨r,h2,rfl⟩:=zMd h
  exact iU (hB _) (hSs X C t _ r O hd h2)
theorem gE: ∀ n,SndS ad E₀ n∧SndSs ad E₀ n:=by
 intro n
 induction n with
 | zero=>
  refine⟨?_, ?_⟩
  ·intro X C t s g O hd h
   unfold denS at h
   cases h
  ·intro X C t s g O hd h
   unfold denSs at h
   cases h
 | succ n ih=>exact⟨yI ih.2,wX ih.1 ih.2⟩
end
noncomputable def GlT (P:Program) (w:World) (K:Frag) (mg:Str→Option Value) (base:Heap) (ad:Ad) (k:Nat) (x:Str):SK.Gl→Prop
 | .fn j n F=> ∃ r f,r≤k∧mg x=some (.ref f)∧keepIn K (.ref f)=true∧(∃ fd ps,FnOk P w K mg base (CXe P w) r f fd ps (spOf K ad n F)∧Binds K fd ps [])∧f=ad.fnA j
 | .exc c=>mg x=some (.ref (ad.cls c))∧c<ad.nb
 | .verr=>x="ValueError"∧mg x=none
 | .val d=> ∃ u v,mg x=some u∧RelV v u∧ ∀ G,Rep K ad G d v
 | .py p=>x=pyName p∧mg x=none
def TabOk (P:Program) (w:World) (K:Frag) (mg:Str→Option Value) (base:Heap) (ad:Ad) (k:Nat) (tab:List (Str×SK.Gl)):Prop:= ∀ x g,tab.lookup x=some g→(x==("__debug__":Str))=false∧GlT P w K mg base ad k x g
def FnsOk (P:Program) (w:World) (K:Frag) (mg:Str→Option Value) (base:Heap) (ad:Ad) (k:Nat) (fns:List (Nat×Fn)):Prop:= ∀ j n F,fns[j]? =some (n,F)→ ∃ r,r≤k∧keepIn K (.ref (ad.fnA j))=true∧ ∃ fd ps,FnOk P w K mg base (CXe P w) r (ad.fnA j) fd ps (spOf K ad n F)∧Binds K fd ps []
structure ExcK (K:Frag) (ad:Ad):Prop where
 exc: ∀ c,ExcCls K (ad.cls c)
 kin: ∀ c e,c<ad.nb→kitOne K (.ref (ad.cls e)) (.ref (ad.cls c))=some (hit c e)
 kve: ∀ e,kitOne K (.ref (ad.cls e)) (.type "ValueError")=some true
 exm: ∀ c,exmOne K (.ref (ad.cls c)) (.ref (ad.cls 0))=some true
 exi: ∀ c,excIn K (ad.cls c) vErr "ValueError.__new__"=true
section
variable {P:Program} {w:World} {K:Frag} {mg:Str→Option Value} {base:Heap} {ad:Ad} {k:Nat} {tab:List (Str×SK.Gl)}
theorem GlT.mono {x:Str} {g:SK.Gl} {j:Nat} (h:GlT P w K mg base ad k x g) (hk:k≤j):GlT P w K mg base ad j x g:=by
 cases g with
 | fn i n F=>
  obtain⟨r,f,a,b⟩:=h
  exact⟨r,f,Nat.le_trans a hk,b⟩
 | exc c=>exact h
 | verr=>exact h
 | val d=>exact h
 | py p=>exact h
theorem TabOk.mono {j:Nat} (h:TabOk P w K mg base ad k tab) (hk:k≤j):TabOk P w K mg base ad j tab:=fun x g e=>⟨(h x g e).1,(h x g e).2.mono hk⟩
theorem m6 {a:Addr} {o:Obj} {its:Array Value} {n:Nat} {ds:List D} {vs:List V} {G:Hp} (h:K.lookup a=some o) (hc:o.cls= .type "tuple") (hd:o.dict=none) (hs:o.data= .seq its n) (hz:its.size≤sizeLine) (hv:Vals vs its.toList) (hr:Reps K ad G ds vs):Rep K ad G (.tup ds) (.ref a):=by
 unfold Rep
 exact⟨a,vs,rfl, .inr ⟨o,its,n,h,hc,hd,hs,hz,hv⟩,hr⟩
theorem TabOk.nil:TabOk P w K mg base ad k []:=fun x g e=>by cases e
theorem TabOk.cons {x:Str} {g:SK.Gl} (h:TabOk P w K mg base ad k tab) (hd:(x==("__debug__":Str))=false) (hg:GlT P w K mg base ad k x g):TabOk P w K mg base ad k ((x,g)::tab):=by
 intro y g' e
 rw [List.lookup_cons] at e
 cases q:y==x with
 | true=>
  rw [q] at e
  cases e
  have:y=x:=by simpa using q
  subst this
  exact⟨hd,hg⟩
 | false=>
  rw [q] at e
  exact h y g' e
theorem FnsOk.nil:FnsOk P w K mg base ad k []:=fun j n F e=>by simp at e
theorem FnsOk.snoc {fns:List (Nat×Fn)} {j n:Nat} {F:Fn} {r k':Nat} {f:Addr} {fd:FuncData} {ps:List Str} (h:FnsOk P w K mg base ad k fns) (hk:k≤k') (hl:fns.length=j) (hf:f=ad.fnA j) (hr:r≤k') (kp:keepIn K (.ref f)=true) (ok:FnOk P w K mg base (CXe P w) r f fd ps (spOf K ad n F)) (hb:Binds K fd ps []):
  FnsOk P w K mg base ad k' (fns++[(n,F)]):=by
 intro i m G e
 subst hf
 by_cases hi:i<fns.length
 ·rw [List.getElem?_append_left hi] at e
  obtain⟨r',h1,h2⟩:=h i m G e
  exact⟨r',Nat.le_trans h1 hk,h2⟩
 ·rw [List.getElem?_append_right (by omega)] at e
  cases hq:i - fns.length with
  | zero=>
   rw [hq] at e
   cases e
   have:i=j:=by omega
   subst this
   exact⟨r,hr,kp,fd,ps,ok,hb⟩
  | succ q=>rw [hq] at e;simp at e
theorem a8 {N Ps:List Str} {sc:Scope} (h:scopeOk N Ps sc=true):FnScope N Ps sc∧ ∀ x∈N,(x==("__debug__":Str))=false∧(x==("__classdict__":Str))=false:=by
 unfold scopeOk at h
 simp only [Bool.and_eq_true] at h
 obtain⟨⟨⟨⟨⟨⟨⟨h1,h2⟩,h3⟩,h4⟩,h5⟩,h6⟩,h7⟩,h8⟩:=h
 refine⟨⟨by simpa using h1,by simpa using h2,by simpa using h3,of_decide_eq_true h4,of_decide_eq_true h5,fun x hx=> ?_,fun y hy z=> ?_⟩,fun x hx=> ?_⟩
 ·have:=zAd h6 x hx
  rcases(Bool.or_eq_true _ _).mp this with z | z
  ·exact .inl (aL z)
  ·exact .inr (aL z)
 ·have:=zAd h7 y hy
  rw [z] at this
  simp at this
 ·have:=zAd h8 x hx
  simpa using this
theorem cY {X:Cx} {G:Hp} {ds:List D} {vs:List V} {n:Nat} (hG:Same G X.H₀) (r:Reps X.K ad G ds vs):SS X ad G G X.H₀ (ds.map Slot.sh++List.replicate n .no) (vs.map some++List.replicate n none):=by
 have hl:=r.length
 have key: ∀ (i:Nat) (sl:Slot),(ds.map Slot.sh++List.replicate n .no)[i]? =some sl→(∃ d v,sl= .sh d∧(vs.map some++List.replicate n none)[i]? =some (some v)∧Rep X.K ad G d v)∨(sl= .no∧ ∃ ov,(vs.map some++List.replicate n none)[i]? =some ov):=fun i sl e=>by
  by_cases hi:i<ds.length
  ·rw [List.getElem?_append_left (by simpa using hi),List.getElem?_map] at e
   cases e1:ds[i]? with
   | none=>rw [e1] at e;cases e
   | some d=>
    rw [e1] at e
    cases e
    obtain⟨v,e2,q⟩:=r.get e1
    refine .inl ⟨d,v,rfl, ?_,q⟩
    rw [List.getElem?_append_left (by rw [List.length_map];omega),List.getElem?_map,e2]
    rfl
  ·rw [List.getElem?_append_right (by simpa using hi),List.getElem?_replicate] at e
   split at e
   ·cases e
    refine .inr ⟨rfl,none, ?_⟩
    rename_i hlt
    rw [List.getElem?_append_right (by rw [List.length_map];omega),List.getElem?_replicate,if_pos]
    rw [List.length_map] at hlt ⊢
    omega
   ·cases e
 refine⟨Step.refl hG,⟨by simp [hl],fun i sl e=> ?_⟩,fun i xs a e w h=> ?_,fun i j xs ys a e1 e2 w1 w2 h1 h2=> ?_⟩
 ·rcases key i sl e with ⟨d,v,rfl,e1,q⟩ | ⟨rfl,ov,e1⟩
  ·exact⟨some v,e1,v,rfl,q⟩
  ·exact⟨ov,e1,trivial⟩
 ·rcases key i _ e with ⟨d,v,z,_⟩ | ⟨z,_⟩<;>(subst z;exact(Bool.false_ne_true w).elim)
 ·rcases key i _ e1 with ⟨d,v,z,_⟩ | ⟨z,_⟩<;>(subst z;exact(Bool.false_ne_true w1).elim)
theorem wY {x qual:Str} {st:Stmt} {f:Addr} {fd:FuncData} {fns:List (Nat×Fn)} {n:Nat} {F:Fn} {ps:List Str} (B:ExcK K ad) (TB:TabOk P w K mg base ad k tab) (FB:FnsOk P w K mg base ad k fns) (Fu:Fun K x qual st f fd) (hps:parsOf (defArgs st)=some ps)
  (hd:denFn tab fns st=some (n,F)):FnOk P w K mg base (CXe P w) (k+1) f fd ps (spOf K ad n F):=by
 obtain⟨oc,od,kV,doc,pm,an,cdv,ct,osl,rfl,lk,hcd⟩:=Fu.ex
 cases st with
 | FunctionDef nm as b dl re tp sc ts bi pos=>
  have hd':((parsOf as).bind fun Ps=>if scopeOk (namesOf sc) Ps sc then(denSs 100 false ⟨tab,fns,sc,namesOf sc,blds 50 b⟩ b).map fun g=>(Ps.length,SK.fnOf (namesOf sc).length g) else none)=some (n,F):=hd
  have hps':parsOf as=some ps:=hps
  rw [hps'] at hd'
  have hd2:(if scopeOk (namesOf sc) ps sc then(denSs 100 false ⟨tab,fns,sc,namesOf sc,blds 50 b⟩ b).map fun g=>(ps.length,SK.fnOf (namesOf sc).length g) else none)=some (n,F):=hd'
  by_cases hs:scopeOk (namesOf sc) ps sc=true
  ·rw [if_pos hs] at hd2
   obtain⟨g,hg,e⟩:=zMd hd2
   cases e
   obtain⟨S,nm⟩:=a8 hs
   refine xZ lk hcd S (fun vs H Q E ⟨G,ds,_,r,hl,_⟩=>by rw [r.length,hl]) fun A outer s H vs Q E hr hz_=> ?_
   obtain⟨G,ds,hG,r,hl,hq⟩:=hz_
   let C:SK.Ctx:=⟨tab,fns,sc,namesOf sc,blds 50 b⟩
   have vis: ∀ x i,loc C x=some i→(namesOf sc)[i]? =some x∧Loc sc x∧x∈namesOf sc:=fun x i e=>by
    obtain⟨e1,e2⟩:=dQ e
    refine⟨bE e1, ?_,dP e1⟩
    rcases e2 with e2 | e2 | e2
    ·exact .inl e2
    ·exact .inr e2
    ·exact absurd rfl (S.nofree _ (aY e2))
   have O:StOk (cxOf (CXe P w) P w K mg base (namesOf sc) qual sc f cdv A outer s H E) ad C:=by
    refine⟨⟨rfl,S.nd,fun x i e=> ?_,fun x e=>e,fun x g e=> ?_,fun x i e=> ?_,rfl, ?_,hr.hd,B.exc,B.kin,B.kve,fun j m F' e=> ?_⟩,fun _=>rfl,rfl,fun x i e=>(vis x i e).2.1,B.exm,B.exi⟩
    ·obtain⟨a,b,c⟩:=vis x i e
     exact⟨a,b.elim .inl fun z=> .inr (.inl z),(nm x c).1,(nm x c).2⟩
    ·obtain⟨a,b⟩:=TB x g e
     refine⟨a, ?_⟩
     cases g with
     | fn j m F'=>
      obtain⟨r',f',h1,h2,h3,h4,h5⟩:=b
      exact⟨r',f',⟨h2,h3,h4⟩,hr.mono h1,h5⟩
     | exc c=>exact b
     | verr=>exact b
     | val d=>exact b
     | py p=>exact b
    ·obtain⟨e1,e2⟩:=aX e
     rcases e2 with e2 | e2
     ·exact .inl e2
     ·exact absurd rfl (S.nofree _ (aY e2))
    ·exact Nat.lt_of_le_of_lt (Nat.add_le_add_left (by decide:62≤64) _) hr.units
    ·obtain⟨r',h1,h2,h3⟩:=FB j m F' e
     exact⟨r',⟨h2,h3⟩,hr.mono h1⟩
   have T:DefX (cxOf (CXe P w) P w K mg base (namesOf sc) qual sc f cdv A outer s H E) E:=⟨rfl,rfl,rfl,fun e s' h=>h⟩
   refine⟨_,(gE (ad:=ad) (E₀:=E) 100).2 _ C false b g O (fun _=>⟨T,PassesOwn.leaving (Q₁:=fun e s''=>CXe P w outer H s E e s'')⟩) hg, ?_⟩
   refine⟨G,G,ds.map Slot.sh++List.replicate ((namesOf sc).length - ds.length) .no,fun σ c H'=>E (.ref (ad.cls c)) none H', ?_,⟨fun σ=>qF T,fun _ σ c H h=>h⟩, ?_⟩
   ·have:=cY (X:=cxOf (CXe P w) P w K mg base (namesOf sc) qual sc f cdv A outer s H E) (ad:=ad) (n:=(namesOf sc).length - ds.length) hG r
    unfold L2.start
    rw [r.length]
    exact this
   ·have hq':RK K ad G H (match g (ds.map Slot.sh++List.replicate ((namesOf sc).length - ds.length) .no) with
     | .rt (.ok d)=> .ok d
     | .rt (.ow xs)=> .ow xs
     | .rt _=> .bad
     | .nx _=> .ok .non
     | .ex c _=> .ex c
     | _=> .bad) Q (fun c H'=>E (.ref (ad.cls c)) none H'):=hq
    cases e:g (ds.map Slot.sh++List.replicate ((namesOf sc).length - ds.length) .no) with
    | nx ρ=>rw [e] at hq';exact fun σ G' H' S'=>hq' .non G' H' S'.st (by unfold Rep;rfl)
    | bk ρ=>rw [e] at hq';exact hq'.elim
    | ct ρ=>rw [e] at hq';exact hq'.elim
    | ex c ρ=>rw [e] at hq';exact fun σ G' H' S'=>hq' G' H' S'.st
    | rt r'=>
     rw [e] at hq'
     cases r' with
     | ok d=>exact hq'
     | ow xs=>exact hq'
     | ex c=>exact hq'.elim
     | bad=>exact hq'.elim
  ·rw [if_neg hs] at hd2
   cases hd2
 | _=>cases hd
noncomputable def jG (K:Frag) (cs:List Addr) (C0:Addr):Bool:=
 decide (cs.length≤100)&&cs.head?==some C0&&cs.all fun C=>(clsIn K C).isSome&&mroIn K C (.type "object")==some true&&mroIn K C (.type "BaseException")==some true&&findIn K (.ref C) "__class__"==some (some (.builtin "object.__class__"))&&
  findIn K (.ref C) "__getattribute__"==some (some (.builtin "BaseException.__getattribute__"))&&findIn K (.ref C) "__getattr__"==some none&&kitOne K (.ref C) (.type "ValueError")==some true&&exmOne K (.ref C) (.ref C0)==some true&&
  excIn K C vErr "ValueError.__new__"
noncomputable def jH (K:Frag) (cs:List Addr):Bool:=cs.zipIdx.all fun p=>cs.zipIdx.all fun q=>kitOne K (.ref p.1) (.ref q.1)==some (hit q.2 p.2)
noncomputable def adOf (cs:List Addr) (C0:Addr) (fs:List Addr):Ad:=⟨fun c=>cs.getD c C0,fun k=>fs.getD k 0,cs.length⟩
theorem tQ {cs fs:List Addr} {C0:Addr} (h:jG K cs C0=true) (h2:jH K cs=true):ExcK K (adOf cs C0 fs):=by
 unfold jG at h
 rw [Bool.and_eq_true,Bool.and_eq_true] at h
 obtain⟨⟨hl,hh⟩,ha⟩:=h
 have hl:cs.length≤100:=of_decide_eq_true hl
 have hh:cs.head?=some C0:=by simpa using hh
 have mem0:C0∈cs:=List.mem_of_mem_head? (by rw [hh];rfl)
 have get: ∀ c,(adOf cs C0 fs).cls c∈cs:=fun c=>by
  show cs.getD c C0∈cs
  rw [List.getD_eq_getElem?_getD]
  cases e:cs[c]? with
  | none=>exact mem0
  | some a=>exact List.mem_of_getElem? e
 have z0:cs[0]? =some C0:=by rw [←List.head?_eq_getElem?];exact hh
 have c0:(adOf cs C0 fs).cls 0=C0:=by
  show cs.getD 0 C0=C0
  rw [List.getD_eq_getElem?_getD,z0]
  rfl
 have all: ∀ C∈cs,ExcCls K C∧kitOne K (.ref C) (.type "ValueError")=some true∧exmOne K (.ref C) (.ref C0)=some true∧excIn K C vErr "ValueError.__new__"=true:=fun C hC=>by
  have:=zAd ha C hC
  simp only [Bool.and_eq_true,beq_iff_eq] at this
  obtain⟨⟨⟨⟨⟨⟨⟨⟨h1,h2⟩,h3⟩,h4⟩,h5⟩,h6⟩,h7⟩,h8⟩,h9⟩:=this
  exact⟨⟨h1,h2,h3,h4,h5,h6⟩,h7,h8,h9⟩
 have pair: ∀ (c e:Nat) (a b:Addr),cs[e]? =some a→cs[c]? =some b→kitOne K (.ref a) (.ref b)=some (hit c e):=fun c e a b ea eb=>by
  unfold jH at h2
  have m1:(a,e)∈cs.zipIdx:=List.mem_zipIdx_iff_getElem?.mpr ea
  have m2:(b,c)∈cs.zipIdx:=List.mem_zipIdx_iff_getElem?.mpr eb
  have:=zAd (zAd h2 _ m1) _ m2
  simpa using this
 refine⟨fun c=>(all _ (get c)).1,fun c e hc=> ?_,fun e=>(all _ (get e)).2.1,fun c=> ?_,fun c=>(all _ (get c)).2.2.2⟩
 ·have hc':c<cs.length:=hc
  obtain⟨b,eb⟩: ∃ b,cs[c]? =some b:=⟨_,List.getElem?_eq_getElem hc'⟩
  have e1:(adOf cs C0 fs).cls c=b:=by
   show cs.getD c C0=b
   rw [List.getD_eq_getElem?_getD,eb]
   rfl
  rw [e1]
  cases ea:cs[e]? with
  | some a=>
   have e2:(adOf cs C0 fs).cls e=a:=by
    show cs.getD e C0=a
    rw [List.getD_eq_getElem?_getD,ea]
    rfl
   rw [e2]
   exact pair c e a b ea eb
  | none=>
   have e2:(adOf cs C0 fs).cls e=C0:=by
    show cs.getD e C0=C0
    rw [List.getD_eq_getElem?_getD,ea]
    rfl
   have hel:cs.length≤e:=List.getElem?_eq_none_iff.mp ea
   rw [e2,pair c 0 C0 b z0 eb]
   congr 1
   unfold hit
   have n1:(c==e)=false:=by simp;omega
   rw [n1]
   cases c<;>simp
 ·rw [c0]
  exact(all _ (get c)).2.2.1
end
section
variable {P:Program} {w:World} {K:Frag} {mg:Str→Option Value} {base h:Heap} {ad:Ad} {k:Nat} {tab:List (Str×SK.Gl)} {fns:List (Nat×Fn)}
structure PQ (P:Program) (w:World) (K:Frag) (mg:Str→Option Value) (base h:Heap) (ad:Ad) (k:Nat) (tab:List (Str×SK.Gl)) (fns:List (Nat×Fn)):Prop where
 t:TabOk P w K mg base ad k tab
 u:FnsOk P w K mg base ad k fns
 X:K.In h
 G:h.Ns mainGlobals mg
 B:ExcK K ad
def Bnd (x:Str) (st:Stmt) (ps:List Str):Prop:= ∀ (kV doc pm:Value) (an:Option Addr) (cdv ct:Value) (us:List Value),us.length=ps.length→bindArgs (PySem.W.fnOf x x (defArgs st) (defBody st) (defScope st) .none kV doc pm an cdv ct) ⟨us,[]⟩=pure (ps.zip us)
theorem PQ.cons (T:PQ P w K mg base h ad k tab fns) {x:Str} {f:Addr} {fd:FuncData} {ps:List Str} {n r:Nat} {M:Fn} (hr:k≤r) (ok:FnOk P w K mg base (CXe P w) r f fd ps (spOf K ad n M)) (hb:Binds K fd ps []) (kp:keepIn K (.ref f)=true) (hm:mg x=some (.ref f)) (hj:f=ad.fnA fns.length) (hdb:(x==("__debug__":Str))=false):
  PQ P w K mg base h ad r ((x, .fn fns.length n M)::tab) (fns++[(n,M)]):=
 ⟨TabOk.cons (T.t.mono hr) hdb ⟨r,f,Nat.le_refl _,hm,kp,⟨_,_,ok,hb⟩,hj⟩,FnsOk.snoc T.u hr rfl hj (Nat.le_refl _) kp ok hb,T.X,T.G,T.B⟩
theorem PQ.addV (T:PQ P w K mg base h ad k tab fns) (x:Str) (st:Stmt) (f:Addr) (ps:List Str) (n:Nat) (M:Fn) {oc:Value} {od an:Option Addr} {osl:Array (Option Value)} {kV doc pm cdv ct:Value} (l:K.lookup f=some ⟨oc,od, .func (PySem.W.fnOf x x (defArgs st) (defBody st) (defScope st) .none kV doc pm an cdv ct),osl⟩)
  (fns':List (Nat×Fn)) (hf:fns'=fns∨fns'=[]) (d:denFn tab fns' st=some (n,M):=by kernel_rfl) (c:codeIn K cdv x=true:=by kernel_rfl) (kp:keepIn K (.ref f)=true:=by kernel_rfl) (hm:nsIn K mainGlobals x=some (some (.ref f)):=by kernel_rfl) (hj:f=ad.fnA fns.length:=by rfl)
  (hdb:(x==("__debug__":Str))=false:=by decide) (hps:parsOf (defArgs st)=some ps:=by rfl) (hb:Bnd x st ps:=by intro _ _ _ _ _ _ us hl;rcases us with _ | ⟨u0,_ | ⟨u1,_ | ⟨u2,_ | ⟨u3,_ | ⟨u4,us⟩⟩⟩⟩⟩<;>first | rfl | (simp at hl)):
  PQ P w K mg base h ad (k+1) ((x, .fn fns.length n M)::tab) (fns++[(n,M)]):=by
 have F:=kP (st:=st) l c kp
 refine T.cons (Nat.le_succ _) (wY (ps:=ps) T.B T.t ?_ F hps d) (F.binds hb) kp (PySem.W.mg_of T.X T.G hm) hj hdb
 rcases hf with rfl | rfl
 ·exact T.u
 ·exact FnsOk.nil
theorem PQ.add (T:PQ P w K mg base h ad k tab fns) (x:Str) (st:Stmt) (f:Addr) (ps:List Str) (n:Nat) (M:Fn) {oc:Value} {od an:Option Addr} {osl:Array (Option Value)} {kV doc pm cdv ct:Value} (l:K.lookup f=some ⟨oc,od, .func (PySem.W.fnOf x x (defArgs st) (defBody st) (defScope st) .none kV doc pm an cdv ct),osl⟩)
  (d:denFn tab [] st=some (n,M):=by kernel_rfl) (c:codeIn K cdv x=true:=by kernel_rfl) (kp:keepIn K (.ref f)=true:=by kernel_rfl) (hm:nsIn K mainGlobals x=some (some (.ref f)):=by kernel_rfl) (hj:f=ad.fnA fns.length:=by rfl)
  (hdb:(x==("__debug__":Str))=false:=by decide) (hps:parsOf (defArgs st)=some ps:=by rfl) (hb:Bnd x st ps:=by intro _ _ _ _ _ _ us hl;rcases us with _ | ⟨u0,_ | ⟨u1,_ | ⟨u2,_ | ⟨u3,_ | ⟨u4,us⟩⟩⟩⟩⟩<;>first | rfl | (simp at hl)):
  PQ P w K mg base h ad (k+1) ((x, .fn fns.length n M)::tab) (fns++[(n,M)]):=T.addV x st f ps n M l [] (.inr rfl) d c kp hm hj hdb hps hb
theorem PQ.py (T:PQ P w K mg base h ad 0 tab []) (p:Py) (hm:nsIn K mainGlobals (pyName p)=some none:=by kernel_rfl) (hdb:(pyName p==("__debug__":Str))=false:=by decide):PQ P w K mg base h ad 0 ((pyName p, .py p)::tab) []:=⟨TabOk.cons T.t hdb ⟨rfl,PySem.W.mg_none_of T.X T.G hm⟩,T.u,T.X,T.G,T.B⟩
theorem PQ.verr (T:PQ P w K mg base h ad 0 tab []) (hm:nsIn K mainGlobals "ValueError"=some none:=by kernel_rfl):PQ P w K mg base h ad 0 (("ValueError", .verr)::tab) []:=⟨TabOk.cons T.t (by decide) ⟨rfl,PySem.W.mg_none_of T.X T.G hm⟩,T.u,T.X,T.G,T.B⟩
theorem PQ.exc (T:PQ P w K mg base h ad 0 tab []) (x:Str) (c:Nat) (hm:nsIn K mainGlobals x=some (some (.ref (ad.cls c))):=by kernel_rfl) (hc:c<ad.nb:=by decide) (hdb:(x==("__debug__":Str))=false:=by decide):PQ P w K mg base h ad 0 ((x, .exc c)::tab) []:=⟨TabOk.cons T.t hdb ⟨PySem.W.mg_of T.X T.G hm,hc⟩,T.u,T.X,T.G,T.B⟩
theorem PQ.int (T:PQ P w K mg base h ad 0 tab []) (x:Str) (i:Int) (t:Tok) (hm:nsIn K mainGlobals x=some (some (.int i t)):=by kernel_rfl) (hdb:(x==("__debug__":Str))=false:=by decide):PQ P w K mg base h ad 0 ((x, .val (.int i))::tab) []:=⟨TabOk.cons T.t hdb ⟨.int i t, .int i,PySem.W.mg_of T.X T.G hm,⟨_,rfl⟩,fun G=>by unfold Rep;rfl⟩,T.u,T.X,T.G,T.B⟩
theorem PQ.val (T:PQ P w K mg base h ad 0 tab []) (x:Str) {d:D} {u:Value} {v:V} (hv:RelV v u) (hr: ∀ G,Rep K ad G d v) (hm:nsIn K mainGlobals x=some (some u):=by kernel_rfl) (hdb:(x==("__debug__":Str))=false:=by decide):PQ P w K mg base h ad 0 ((x, .val d)::tab) []:=⟨TabOk.cons T.t hdb ⟨u,v,PySem.W.mg_of T.X T.G hm,hv,hr⟩,T.u,T.X,T.G,T.B⟩
theorem PQ.nil (X:K.In h) (G:h.Ns mainGlobals mg) (B:ExcK K ad):PQ P w K mg base h ad 0 [] []:=⟨TabOk.nil,FnsOk.nil,X,G,B⟩
end
def IsRec (o:Obj) (q:Str):Prop:= ∃ vs t,o.data= .fields vs∧vs[1]? =some (.str q t)
structure Tb (P:Addr) (q:Str) (ps:Array Value) (cs:List (Addr×Obj)):Prop where
 ok:TriplesOk ps.toList
 cod: ∀ pos cv,codeAmong pos ps.toList=some cv→ ∃ c o,cv= .ref c∧(c,o)∈cs∧IsRec o q
 ne: ∀ p∈cs,p.1≠P
theorem cO: ∀ {l:List Value} {i j:Int} {a b:Nat} {c:Value},TriplesOk l→TriplesOk (l++[.int i a, .int j b,c])
 | [],_,_,_,_,_,_=>trivial
 | .int _ _:: .int _ _::_::r,_,_,_,_,_,h=>cO (l:=r) h
theorem eI {pos pos':Pos} {c cv:Value}: ∀ {l:List Value},TriplesOk l→codeAmong pos' (l++[rawInt pos.line,rawInt pos.col,c])=some cv→codeAmong pos' l=some cv∨cv=c
 | [],_,h=>by
  simp only [List.nil_append,codeAmong,rawInt] at h
  split at h
  ·exact .inr (Option.some.inj h).symm
  ·cases h
 | .int i a:: .int j b::d::r,ht,h=>by
  simp only [List.cons_append,codeAmong] at h ⊢
  split at h
  ·rename_i hc
   rw [if_pos hc]
   exact .inl h
  ·rename_i hc
   rw [if_neg hc]
   exact eI (l:=r) ht h
section
variable {X:Cx} {P c:Addr} {q:Str} {ps:Array Value} {cs pins:List (Addr×Obj)} {σ:St} {H:Hp} {s:Shared} {params:Arguments} {body:Expr} {sc:Scope} {pos:Pos} {R':Value→Shared→Prop}
theorem m7 (I:Inv X ((P,PySem.W.tabObj ps)::(cs++pins)) σ H s) (T:Tb P q ps cs) (hx:P∈X.ex) (hpn: ∀ p∈X.pn++pins,p.1≠P) (hpar:defaultsOf params X.env=([],[])) (hq:X.env.qual++"<lambda>"=q)
  (hfree: ∀ x,(x,NameKind.free)∈sc.names→X.env.kindOf x=some .cell∨X.env.kindOf x=some .free) (hcode:X.env.code= .ref c) (hC:PySem.W.CodeHd s.heap c P) (hB:s.heap.BuiltinsAt X.mg P)
  (k: ∀ (a:Addr) (ps':Array Value) (cs':List (Addr×Obj)) (cv ctv:Value) (s':Shared),Inv X ((P,PySem.W.tabObj ps')::(cs'++pins)) σ H s'→Tb P q ps' cs'→(∃ more,ps'=ps++more)→(∀ p∈cs',p∈cs∨s.heap.objs.size≤p.1)→s.heap.objs.size≤a→
   s'.heap.get? a=some { cls:= .type "function",data:= .func (PySem.W.kla_fn "<lambda>" q params body sc (clOf X.env.cells sc.names []) ((X.mg "__name__").getD .none) cv ctv) }→s'.heap.CodeRec cv q→
   (∀ b o,b≠P→s.heap.get? b=some o→s'.heap.get? b=some o)→R' (.ref a) s'):
  wpAny (model X.prog X.w) X.A (eval (.Lambda params body sc pos) X.env) R' X.xe s:=by
 have hcl:closureFor sc X.env=pure (clOf X.env.cells sc.names []):=cF fun x hx=>by
  obtain⟨c,h⟩:=I.ok.has x (hfree x hx)
  rw [h];rfl
 have pP:=I.pin (P,PySem.W.tabObj ps) (List.mem_append_right _ (.head _))
 have hg:s.heap.Ns mainGlobals X.mg:=I.mod.glob.keeps I.bk
 have hgP:mainGlobals≠P:=fun z=>by
  obtain⟨o,es,ep,e,hd,_⟩:=hg
  have e2:=pP.1
  rw [z] at e
  rw [e] at e2
  cases e2
  cases hd
 -- without the table's pin
 have I0:Inv X (cs++pins) σ H s:=I.pins_of fun p hp=>I.pin p (List.mem_append_right _ (.tail _ hp))
 have inP: ∀ p∈X.pn++(cs++pins),p.1≠P:=fun p hp=>by
  rcases List.mem_append.mp hp with h | h
  ·exact hpn p (List.mem_append_left _ h)
  ·rcases List.mem_append.mp h with h | h
   ·exact T.ne p h
   ·exact hpn p (List.mem_append_right _ h)
 have hch: ∀ b∈[P],(b∈X.ex∨X.s₀.heap.objs.size≤b)∧b≠X.env.locals∧(∀ x c,X.env.cells.lookup x=some c→c≠b)∧ ∀ p∈X.pn++(cs++pins),p.1≠b:=fun b hb=>by
  rw [List.mem_singleton.mp hb]
  exact⟨.inl hx,(I.ok.exf P hx).1,(I.ok.exf P hx).2,inP⟩
 -- the state behind
 have after: ∀ (h':Heap) (tk:Nat),(∀ b o,b≠P→s.heap.get? b=some o→h'.get? b=some o)→Inv X (cs++pins) σ H { s with heap:=h',toks:=tk }:=fun h' tk ext=>by
  have neP: ∀ b,b∉[P]→b≠P:=fun b hb z=>hb (by rw [z];exact .head _)
  refine I0.step (ch:=[P]) (g':=s.gens) (d':=s.drawn) hch (fun b o _ _ hb e _=>ext b o (neP b hb) e) (fun b o _ _ hb e _=>⟨o.slots,ext b o (neP b hb) e⟩) (fun b o _ _ n=>n) (fun b o hb e=>⟨o,ext b o (neP b hb) e⟩) (fun _ _ e=>e) (fun _ _ _ e=>e) (fun b ps e=>⟨#[],by rw [e];simp⟩) (fun m hn=> ?_) (fun a o e=> ?_) I.bare
  ·obtain⟨o,es,ep,e,r⟩:=hn
   exact⟨o,es,ep,ext _ o (I.ok.exf P hx).1.symm e,r⟩
  ·have nP: ∀ b,H b≠none→b≠P:=fun b hb z=>hb (by rw [z];exact pP.2.1)
   refine(I.hok a o e).stay (fun b u hb q=>ext b u ?_ q) (fun _ q=>q) fun _ _ q=>q
   rcases hb with rfl | hb
   ·exact nP _ (by rw [e];exact fun z=>nomatch z)
   ·exact nP _ (by rw [hb];exact fun z=>nomatch z)
 refine PySem.W.kla_eval hpar ?_
 rw [hq]
 cases hf:codeAmong pos ps.toList with
 | some cv=>
  refine PySem.W.kla_makeFunctionHit (mg:=X.mg) hcl I.ok.glob hg hcode hC pP.1 T.ok hf hB fun ctv h' tk hk hsz=> ?_
  obtain⟨c1,o1,e1,m1,r1⟩:=T.cod pos cv hf
  have p1:=I.pin (c1,o1) (List.mem_append_right _ (.tail _ (List.mem_append_left _ m1)))
  have ext: ∀ b o,s.heap.get? b=some o→(h'.push { cls:= .type "function",data:= .func (PySem.W.kla_fn "<lambda>" q params body sc (clOf X.env.cells sc.names []) ((X.mg "__name__").getD .none) cv ctv) }).get? b=some o:=fun b o e=>Heap.get?_push_of_some _ (hk b o e)
  refine k _ ps cs cv ctv _ ((after _ tk fun b o _ e=>ext b o e).pins_of fun p hp=> ?_) T ⟨#[],by simp⟩ (fun p hp=> .inl hp) hsz (Heap.get?_push_size _ rfl) ?_ fun b o _ e=>ext b o e
  ·have:=I.pin p (List.mem_append_right _ hp)
   exact⟨ext _ _ this.1,this.2⟩
  ·obtain⟨vs,t,d,v⟩:=r1
   exact⟨c1,o1,vs,t,e1,ext _ _ p1.1,d,v⟩
 | none=>
  refine PySem.W.kla_makeFunction (mg:=X.mg) hcl I.ok.glob hg hcode hC pP.1 T.ok hf hgP hB fun c' ctv h' tk hx' hge hlt hrec htb=> ?_
  obtain⟨c2,oc,vs,t,e2,hoc,hd,hv⟩:=hrec
  cases e2
  have ext: ∀ b o,b≠P→s.heap.get? b=some o→(h'.push (PySem.W.kla_obj "<lambda>" q params body sc (clOf X.env.cells sc.names []) ((X.mg "__name__").getD .none) c' ctv)).get? b=some o:=fun b o ne e=>Heap.get?_push_of_some _ (hx' b o ne e)
  have hPlt:P<s.heap.objs.size:=Heap.lt_size pP.1
  have ncell: ∀ v,oc.data≠ .cell v:=fun v z=>by rw [hd] at z;cases z
  have hcn:H c'=none:=I.hok.fresh hge
  refine k _ (ps++ #[rawInt pos.line,rawInt pos.col, .ref c']) ((c',oc)::cs) (.ref c') ctv _ ((after _ tk ext).pins_of fun p hp=> ?_) ⟨?_, ?_, ?_⟩ ⟨_,rfl⟩ (fun p hp=>(List.mem_cons.mp hp).elim (fun z=> .inr (by rw [z];exact hge)) .inl) (Nat.le_trans hge (Nat.le_of_lt hlt)) (Heap.get?_push_size _ rfl) ?_ ext
  ·rcases List.mem_cons.mp hp with rfl | hp
   ·exact⟨Heap.get?_push_of_some _ htb,pP.2.1,pP.2.2.1,pP.2.2.2.1,fun v z=>nomatch z⟩
   ·rcases List.mem_cons.mp hp with rfl | hp
    ·refine⟨Heap.get?_push_of_some _ hoc,hcn, ?_,I.nofs hge,ncell⟩
     exact Nat.ne_of_gt (Nat.lt_of_lt_of_le I.lt hge)
    ·have:=I.pin p (List.mem_append_right _ (.tail _ hp))
     exact⟨ext _ _ (inP p (List.mem_append_right _ hp)) this.1,this.2⟩
  ·rw [Array.toList_append]
   exact cO T.ok
  ·intro pos' cv h
   rw [Array.toList_append] at h
   rcases eI T.ok h with h | rfl
   ·obtain⟨c1,o1,e1,m1,r1⟩:=T.cod pos' cv h
    exact⟨c1,o1,e1, .tail _ m1,r1⟩
   ·exact⟨c',oc,rfl, .head _,vs,t,hd,hv⟩
  ·intro p hp
   rcases List.mem_cons.mp hp with rfl | hp
   ·exact Nat.ne_of_gt (Nat.lt_of_lt_of_le hPlt hge)
   ·exact T.ne p hp
  ·exact⟨c',oc,vs,t,rfl,Heap.get?_push_of_some _ hoc,hd,hv⟩
end
noncomputable abbrev envL (qual:Str) (sc:Scope) (L f:Addr) (cd:Value) (cl:List (Str×Addr)):PySem.Env:=PySem.W.envX qual sc L f cd cl
noncomputable def cxL (CX:CXT) (P:Program) (w:World) (K:PySem.W.Frag) (mg:Str→Option Value) (base:Heap) (N:List Str) (qual:Str) (sc:Scope) (f:Addr) (cd:Value) (cl:List (Str×Addr)) (A:Around) (outer:List PySem.Env) (s:Shared) (H:Hp) (E:XK):Cx where
 prog:=P
 w:=w
 K:=K
 mg:=mg
 base:=base
 A:=A.deeper (envL qual sc s.heap.objs.size f cd cl)
 N:=N
 s₀:=s
 H₀:=H
 env:=envL qual sc s.heap.objs.size f cd cl
 outer:=outer
 stack:=envL qual sc s.heap.objs.size f cd cl::outer
 ex:=[]
 calm:=true
 fn:=fun _=>false
 pn:=[]
 xe:=fun e s'=>wpAny (model P w) (A.deeper (envL qual sc s.heap.objs.size f cd cl)) (leaving (envL qual sc s.heap.objs.size f cd cl) e) (fun _ s''=>CX outer H s E e s'') (fun e' s''=>CX outer H s E e' s'') s'
structure LamSc (N:List Str) (sc:Scope):Prop where
 kind:sc.kind= .function
 co:sc.isCoroutine=false
 gen:sc.isGenerator=false
 nocell: ∀ x∈sc.names,x.2≠ .cell
 noloc: ∀ x,sc.names.lookup x≠some .local
section
variable {CX:CXT} {P:Program} {w:World} {K:PySem.W.Frag} {mg:Str→Option Value} {base:Heap} {N:List Str} {name qual:Str} {sc:Scope} {f:Addr} {cd pm ct:Value} {cl:List (Str×Addr)} {A:Around} {outer:List PySem.Env} {s:Shared} {H:Hp} {E:XK} {Q:VK} {params:Arguments} {body:Expr} {vs:List V}
theorem m8 {h':Heap} {t':Nat} {m:Str→Option Value} (S:LamSc N sc) (hd:A.handled=none) (e0:Env0 P w K mg base A outer s H) (hns:h'.Ns s.heap.objs.size m) (hk: ∀ b o,s.heap.get? b=some o→h'.get? b=some o)
  (inj: ∀ x y c,cl.lookup x=some c→cl.lookup y=some c→x=y) (has: ∀ x,sc.names.lookup x=some .free→ ∃ c,cl.lookup x=some c) (cel: ∀ x c,cl.lookup x=some c→(∃ v,s.heap.IsCell c v)∧H c=none)
  (hl:vs.length=N.length) (hv: ∀ (i:Nat) (x:Str) (v:V),N[i]? =some x→vs[i]? =some v→sc.names.lookup x=some .free→ ∃ u c,RelV v u∧cl.lookup x=some c∧s.heap.IsCell c (some u)):
  Inv (cxL CX P w K mg base N qual sc f cd cl A outer s H E) [] (vs.map some) H { s with heap:=h',toks:=t' }:=by
 have noA: ∀ b:Addr,b∉(cxL CX P w K mg base N qual sc f cd cl A outer s H E).ex:=fun b z=>absurd (show b∈([]:List Addr) from z) (by simp)
 have noC: ∀ x,sc.names.lookup x≠some .cell:=fun x z=>S.nocell _ (PySem.mem_of_lookup z) rfl
 refine⟨⟨e0.mod,S.kind,rfl,rfl,Nat.le_refl _,inj,fun y hy=> ?_,fun y c hy _=>(Bool.false_ne_true hy).elim,fun _=>hd,Around.frames_deeper e0.frames, .inr ⟨rfl,rfl⟩,fun b z=>absurd z (noA b),e0.bs,e0.bsz,fun b _ _=>noA b,fun b z=>absurd z (noA b),e0.funs,e0.frf⟩,
  rfl,e0.bare,Un.kept hk,⟨m,hns,fun i y v h1 h2 h3=> ?_⟩,fun y c h=> ?_,e0.hok.fresh (Nat.le_refl _),fun y c h=>(cel y c h).2,fun p hp=>absurd (show p∈([]:List (Addr×Obj)) from hp) (by simp),e0.hok.kept hk,(List.length_map ..).trans hl⟩
 ·have hy:sc.names.lookup y=some .cell∨sc.names.lookup y=some .free:=hy
  rcases hy with hy | hy
  ·exact absurd hy (noC y)
  ·exact has y hy
 ·have h2':vs[i]? =some v:=by
   rw [List.getElem?_map] at h2
   cases q:vs[i]? with
   | none=>rw [q] at h2;cases h2
   | some a=>rw [q] at h2;cases h2;rfl
  have h3:sc.names.lookup y=some .local∨sc.names.lookup y=some .cell∨sc.names.lookup y=some .free:=h3
  rcases h3 with z | z | z
  ·exact absurd z (S.noloc y)
  ·exact absurd z (noC y)
  ·obtain⟨u,c,r,e1,o,ho,hd⟩:=hv i y v h1 h2' z
   exact⟨u,r, .inr ⟨.inr z,c,e1,o,hk _ _ ho,hd⟩⟩
 ·obtain⟨⟨v,o,ho,hd⟩,_⟩:=cel y c h
  exact⟨v,o,hk _ _ ho,hd⟩
theorem tR {k:Nat} (S:LamSc N sc) (hobj:s.heap.get? f=some { cls:= .type "function",data:= .func (PySem.W.kla_fn name qual params body sc cl pm cd ct) }) (hcd:s.heap.CodeRec cd qual) (hbind:bindArgs (PySem.W.kla_fn name qual params body sc cl pm cd ct) ⟨[],[]⟩=pure [])
  (hr:Room (k+1) A) (e0:Env0 P w K mg base A outer s H)
  (inj: ∀ x y c,cl.lookup x=some c→cl.lookup y=some c→x=y) (has: ∀ x,sc.names.lookup x=some .free→ ∃ c,cl.lookup x=some c) (cel: ∀ x c,cl.lookup x=some c→(∃ v,s.heap.IsCell c v)∧H c=none)
  (hl:vs.length=N.length) (hv: ∀ (i:Nat) (x:Str) (v:V),N[i]? =some x→vs[i]? =some v→sc.names.lookup x=some .free→ ∃ u c,RelV v u∧cl.lookup x=some c∧s.heap.IsCell c (some u))
  (hb: ∃ t,PE (cxL CX P w K mg base N qual sc f cd cl A outer s H E) body t∧t (vs.map some) H Q):
  codeAny (model P w) A (.call (.ref f) ⟨[],[]⟩) (CR CX outer P w H s Q E) s:=by
 have lim:s.heap.NoLimit:=e0.mod.nolimit.keeps fun b o e=>(e0.bs b o e).1
 refine PySem.W.kla_callFunE hr.depth hobj rfl S.co S.gen rfl hcd ?_
 rw [hbind]
 refine wpAny_pure (wpAny_newFunctionEnv S.nocell (fun x hx=>nomatch hx) (fun h' hns hsb=>⟨lim.fresh _ hsb, ?_⟩) S.kind)
 have hk: ∀ b o,s.heap.get? b=some o→h'.get? b=some o:=fun b o e=>hsb.extBut b o (Nat.ne_of_lt (Heap.lt_size e)) (Heap.get?_push_of_some _ e)
 show codeAny _ _ (.expr body (envL qual sc s.heap.objs.size f cd cl)) _ _
 obtain⟨t,ht,hq⟩:=hb
 have I:=m8 (CX:=CX) (E:=E) (t':=s.toks+0) (qual:=qual) (f:=f) (cd:=cd) S hr.hd e0 hns hk inj has cel hl hv
 refine PySem.W.kla_codeExpr (wpAny_mono (ht [] _ (vs.map some) H Q I hq) (fun v s' hs=> ?_) fun e s' hs=>hs)
 obtain⟨x,H',J,rv,q⟩:=hs
 exact⟨x,H',J.os,J.bare,J.base,J.hok,rv,q⟩
end
structure RoomQ (k:Nat) (A:Around):Prop where
 dp:A.depth+3 * k+5<recursionLimit
 un:A.units+16 * k+200<cLine
structure FnOkQ (P:Program) (w:World) (K:PySem.W.Frag) (mg:Str→Option Value) (base:Heap) (CX:CXT) (k:Nat) (f:Addr) (fd:FuncData) (ps:List Str) (sp:Sp):Prop where
 len: ∀ vs H Q E,sp vs H Q E→vs.length=ps.length
 run: ∀ (A:Around) (outer:List PySem.Env) (s:Shared) (H:Hp) (args:Args) (us:List Value) (vs:List V) (Q:VK) (E:XK),RoomQ k A→Env0 P w K mg base A outer s H→BindsTo s fd args (ps.zip us)→Vals vs us→sp vs H Q E→
  codeAny (model P w) A (.call (.ref f) args) (CR CX outer P w H s Q E) s
noncomputable def qX (X:Cx) (A:Around) (Ex:Value→Shared→Prop):Cx:={ X with A:=A,calm:=false,xe:=Ex }
section
variable {X:Cx} {ad:Ad} {pins:List (Addr×Obj)} {s:Shared} {σ:St} {H:Hp} {A:Around} {Ex:Value→Shared→Prop}
theorem wZ (hA:A.frames=X.A.frames) (I:Inv X pins σ H s):Inv (qX X A Ex) pins σ H s:=
 ⟨⟨I.ok.mod,I.ok.kind,I.ok.glob,I.ok.blt,I.ok.above,I.ok.inj,I.ok.has,I.ok.cab,(fun z=>(Bool.false_ne_true z).elim),hA.trans I.ok.frames,I.ok.stk,I.ok.exf,I.ok.bs,I.ok.bsz,I.ok.noex,I.ok.exfs,I.ok.funs,I.ok.frf⟩,I.os,I.bare,I.base,I.loc,I.cell,I.free,I.freeC,I.pin,I.hok,I.len⟩
theorem w5 (h:Cx.Ok X) (I:Inv (qX X A Ex) pins σ H s):Inv X pins σ H s:=
 ⟨h,I.os,I.bare,I.base,I.loc,I.cell,I.free,I.freeC,I.pin,I.hok,I.len⟩
end
section
variable {X:Cx} {ad:Ad} {i kf:Nat} {en x q1:Str} {ea fa:Addr} {F:Fn} {fd:FuncData} {p p2 pos:Pos}
theorem pF (hi:X.N[i]? =some en) (hv:Vis X.env.scope en) (hde:(en==("__debug__":Str))=false) (hdc:(en==("__classdict__":Str))=false) (hg:L2.Gl X x) (hm:X.mg x=some (.ref fa)) (hdb:(x==("__debug__":Str))=false) (hk:PySem.W.keepIn X.K (.ref fa)=true)
  (hf:FnOkQ X.prog X.w X.K X.mg X.base (CXe X.prog X.w) kf fa fd [q1] (spOf X.K ad 1 F)) (hb:Binds X.K fd [q1] []) (hr:RoomQ kf X.A) (he:starEach [.Name en p2] X.env=(false,eval (.Name en p2) X.env)::starEach [] X.env) (hpl:(backTo pos (starEach [] X.env)).any (·.1)=false):
  PE X (.Call (.Name x p) [.Name en p2] [] pos) (fun σ H Q=>σ[i]? =some (some (.ref ea))∧spOf X.K ad 1 F [.ref ea] H Q fun _ _ _=>False):=by
 intro pins s σ H Q I ⟨h1,hsp⟩
 refine wpAny_Call_Name_kw (bX I hg hm ?_ hdb)
 refine PySem.W.callWith_K (h₀:=X.base) I.ok.mod.kin hk (L2.thn (aQ (aS hi hv hde hdc) bA he pos pins s σ H (fun vs H1=>vs=[.ref ea]∧H1=H) I ⟨.ref ea,h1,rfl,rfl⟩) fun us s1 ⟨vs,H1,I1,r,e1,e2⟩=>⟨I1.kIn, ?_⟩) he hpl
 subst e1 e2
 have hl:(us++[]).length=[q1].length:=by rw [List.append_nil, ←r.length];rfl
 refine wpAny_call (codeAny_mono (hf.run X.A X.stack s1 H1 ⟨us,[]⟩ us [.ref ea] Q (fun _ _ _=>False) hr I1.env0 (by have:=hb s1 us I1.kIn hl;rwa [List.append_nil] at this) r hsp) fun r s' hq=> ?_)
 cases r with
 | error e=>obtain⟨_,_,_,_,_,_,_,_,_,_,_,_,_,_,z⟩:=hq;exact z.elim
 | ok fl=>
  cases fl with
  | ret u=>exact I1.after hq
  | next=>exact False.elim hq
  | brk=>exact False.elim hq
  | cont=>exact False.elim hq
end
section
variable {X:Cx} {ad:Ad} {pins pins':List (Addr×Obj)} {s:Shared} {σ:St} {H H':Hp} {B h':Heap} {ea:Addr} {cls a0:Value} {D':Ends} {hd:ExceptHandler}
theorem j9 {i:Nat} {en x cx:Str} {cp xp ep ap hp' rq:Pos} {F:Fn} {kf:Nat} {fa:Addr} {fd:FuncData} {q1:Str} {c:Nat} (F0:Fram X) (hN:X.N.Nodup) (hi:X.N[i]? =some en) (hil:X.env.scope.names.lookup en=some .local) (hic:(en==("__classdict__":Str))=false) (hgx:L2.Gl X x) (hmx:X.mg x=some (.ref fa)) (hdx:(x==("__debug__":Str))=false) (hkx:PySem.W.keepIn X.K (.ref fa)=true) (hfx:FnOkQ X.prog X.w X.K X.mg X.base (CXe X.prog X.w) kf fa fd [q1] (spOf X.K ad 1 F)) (hbx:Binds X.K fd [q1] []) (hrq: ∀ v,RoomQ kf (X.A.mark v)) (hg:L2.Gl X cx) (hm:X.mg cx=some (.ref (ad.cls 0)))
  (hdb:(cx==("__debug__":Str))=false) (hde:(en==("__debug__":Str))=false) (hx:exmOne X.K (.ref (ad.cls c)) (.ref (ad.cls 0))=some true)
  (I:Inv X pins σ H s) {s':Shared} (ho:s'.os=s.os) (hgn:AllBare s'.gens) (fly:Heap.FlyingW B X.stack ea (.ref (ad.cls c)) a0 s'.heap) (un:Un (frs X.stack) [] H H' s.heap s'.heap) (hok:HOk X.prog X.w H' s'.heap) (ne:H' ea=none)
  (c8: ∀ b o,s.heap.get? b=some o→b∉frs X.stack→ ∃ o',B.get? b=some o') (c9: ∀ b o,H' b=some o→ ∃ o',B.get? b=some o')
  (hGe: ∃ G,Same G (upd H' ea (excO (ad.cls c) ea))∧Rep X.K ad G (.exc c) (.ref ea)∧RK X.K ad G (upd H' ea (excO (ad.cls c) ea)) (F [.exc c]) D'.rt fun _ _=>False):
  (tX X pins D' (.ExceptHandler (some (.Name cx cp)) (some en) [.Return (some (.Call (.Name x xp) [.Name en ep] [] ap)) rq] hp')).xe (.ref ea) s':=by
 have hfr:X.A.frames=some (X.env::X.outer):=by rw [←F0.stk];exact I.ok.frames
 have nfs: ∀ {h:Heap},h.FunFrames B X.stack→ ∀ b∈frs X.stack, ∀ o,h.get? b=some o→ ∀ vs,o.data≠ .fields vs:=fun ff b hb o e=>by
  obtain⟨_,o2,e2,nf⟩:=ff.mem (b:=b) hb
  rw [e] at e2
  cases e2
  exact nf
 -- the invariant through the stations
 have inv: ∀ h2:Heap,B.StaysIn h2→s'.heap.UpToSlots h2→Inv X pins σ H' { s' with heap:=h2 }:=fun h2 st2 up=>
  I.call' (ch:=[]) (s':={ s' with heap:=h2 }) ho (yB un fly.1 st2 up (nfs fly.2.2.1) c8) (wD hok fly.1 st2 c9) hgn fun b hb=>by simp at hb
 have new0:s.heap.get? ea=none:=by
  cases e:s.heap.get? ea with
  | none=>rfl
  | some o=>
   by_cases hf:ea∈frs X.stack
   ·obtain⟨oe,vs,_,_,_,he,_,hd,_⟩:=fly.2.2.2
    exact absurd hd (nfs fly.2.2.1 ea hf oe he vs)
   ·obtain⟨o',e'⟩:=c8 ea o e hf
    rw [fly.2.1] at e'
    cases e'
 show wpAny (model X.prog X.w) X.A (noteFrame (.ref ea) X.env) _ X.xe s'
 have fly0:=fly
 rw [F0.stk] at fly0
 refine wpAny_looks_onW hfr F0.fr fly0 fun h1 hheld up1=> ?_
 refine wpAny_landsW hheld fun h2 fly2 up2=> ?_
 have up12:=up1.trans up2
 have J2:=inv h2 fly2.1 up12
 refine wpAny_handleBy_cons (codeAny_handlers_test ?_) (by intro z;cases z)
 refine Calls.Name_function_global J2.ok.kind hg (Calls.loadGlobal_global (by rw [J2.ok.glob];exact J2.mod.glob.keeps J2.bk) hm ?_) hdb
 have LT:Looks (model X.prog X.w) h2 (typeOf (.ref ea)) (.ref (ad.cls c)):=by
  obtain⟨oe,vs,_,_,_,he,⟨hc,_⟩,hd,_⟩:=fly2.2.2.2
  exact hc▸(Looks.ld he).andThen .now
 refine(exm_one (K:=X.K) J2.kIn LT hx).at ?_
 show codeAny _ _ _ _ _
 refine codeAny_handlers_suite_as ?_
 refine lands_againW fly2 fun h3 fly3 up3=> ?_
 have J3:=inv h3 fly3.1 (up12.trans up3)
 have exat:ExcAt h3 ea (ad.cls c):=by
  obtain⟨oe,vs,_,_,_,he,⟨hc,_⟩,hd,_⟩:=fly3.2.2.2
  exact⟨oe,vs,he,hc,hd⟩
 have J4:Inv X pins σ (upd H' ea (excO (ad.cls c) ea)) { s' with heap:=h3 }:=by
  refine J3.track ne ?_ (fun z=> ?_) (fun y d hd z=> ?_) (fun p hp z=> ?_) ?_
  ·cases e:X.s₀.heap.get? ea with
   | none=>rfl
   | some o=>
    obtain⟨o',e1⟩:=I.base.there ea o e (by rw [F0.ex];simp)
    rw [new0] at e1
    cases e1
  ·obtain⟨m,hn,_⟩:=I.loc
   obtain⟨o,_,_,ho',_⟩:=hn
   rw [←z,new0] at ho'
   cases ho'
  ·obtain⟨v,o,ho',_⟩:=I.cell y d hd
   rw [z,new0] at ho'
   cases ho'
  ·obtain⟨ho',_⟩:=I.pin p hp
   rw [z,new0] at ho'
   cases ho'
  ·obtain⟨oe,vs,he,hc,hd⟩:=exat
   refine⟨⟨oe,vs,he,hc,hd⟩,⟨oe,he⟩, ?_⟩
   rintro ha hb ⟨o1,v1,e1,e2,e3⟩ k
   exact⟨o1,v1,k _ e1,e2,e3⟩
 -- e = the exception
 refine a9 J4 hN hi (.inl hil) (v:= .ref ea) rfl (fun s5 J5=> ?_) (.inr hil)
 have hlt:i<σ.length:=by rw [J4.len];exact(List.getElem?_eq_some_iff.mp hi).1
 have he5:(σ.set i (some (.ref ea)))[i]? =some (some (V.ref ea)):=List.getElem?_set_self hlt
 obtain⟨G,sG,rG,hq⟩:=hGe
 -- the suite
 refine wpAny_mono (gJ (kF (pF (X:=qX X (X.A.mark (some (.ref ea))) _) (i:=i) (ea:=ea) hi (.inl hil) hde hic hgx hmx hdx hkx hfx hbx (hrq _) rfl rfl)) pins s5 (σ.set i (some (.ref ea))) _ ⟨fun _ _=>False,fun v H1=>D'.rt v H1,fun _ _=>False,fun _ _=>False⟩ (wZ rfl J5) ⟨he5,G,[.exc c],sG, ?_,rfl,hq⟩) (fun fl s6 hs=> ?_) fun _ _ h=>h
 ·unfold Reps
  exact⟨.ref ea,[],rfl,rG,by unfold Reps;rfl⟩
 ·cases fl with
  | next=>obtain⟨_,_,_,z⟩:=hs;exact z.elim
  | brk=>obtain⟨_,_,_,z⟩:=hs;exact z.elim
  | cont=>obtain⟨_,_,_,z⟩:=hs;exact z.elim
  | ret u=>
   obtain⟨v,σ6,H6,J6',r6,q6⟩:=hs
   have J6:Inv X pins σ6 H6 s6:=w5 J4.ok J6'
   have hlt6:i<σ6.length:=by rw [J6.len];exact(List.getElem?_eq_some_iff.mp hi).1
   show wpAny _ _ (do bindName X.env en .none;unbindBehindTheSuite X.env en hp') _ _ s6
   refine wpAny_bind (wpAny_bindName (a9 J6 hN hi (.inl hil) (v:= .non) rfl (fun s7 J7=> ?_) (.inr hil)))
   unfold unbindBehindTheSuite
   refine wpAny_onRaise (oG J7 hN hi hil (v:= .non) (List.getElem?_set_self hlt6) fun s8 J8=> ?_)
   exact⟨v,_,_,J8,r6,q6⟩
end
noncomputable def toldR (F:Fn):R→R
 | .ok d=> .ok d
 | .ow xs=> .ow xs
 | .ex c=>match F [.exc c] with
  | .ok d=> .ok d
  | .ow xs=> .ow xs
  | _=> .bad
 | .bad=> .bad
def Deed (P:Program) (w:World) (K:PySem.W.Frag) (mg:Str→Option Value) (base:Heap) (ad:Ad) (k:Nat) (s:Shared) (G H:Hp) (a:Addr) (r:R):Prop:=
 ∀ (A:Around) (outer:List PySem.Env) (s1:Shared) (Q:VK) (E:XK),Room k A→Env0 P w K mg base A outer s1 H→(∀ b o,s.heap.get? b=some o→s1.heap.get? b=some o)→
  RK K ad G H r Q (fun c H'=>E (.ref (ad.cls c)) none H')→codeAny (model P w) A (.call (.ref a) ⟨[],[]⟩) (CR (CXe P w) outer P w H s1 Q E) s1
section
variable {P:Program} {w:World} {K:PySem.W.Frag} {mg:Str→Option Value} {base:Heap} {ad:Ad} {k kf:Nat} {f fa a:Addr} {name qual:Str} {params:Arguments} {scope:Scope} {dV kV doc pm cdv ct oc:Value} {an od:Option Addr}
  {osl:Array (Option Value)} {N ps:List Str} {dn en x cx q1:Str} {cp xp ep ap hp' rq np dp rp tp:Pos} {F:Fn} {fd:FuncData} {A:Around} {outer:List PySem.Env} {s:Shared} {G H:Hp} {Q:VK} {E:XK} {args:Args} {r:R}
noncomputable def cZ (dn en x cx:Str) (cp xp ep ap hp' rq np dp rp tp:Pos):Stmt:=
 .Try [.Return (some (.Call (.Name dn np) [] [] dp)) rp] [.ExceptHandler (some (.Name cx cp)) (some en) [.Return (some (.Call (.Name x xp) [.Name en ep] [] ap)) rq] hp'] [] [] tp
theorem pG (lk:K.lookup f=some ⟨oc,od, .func (PySem.W.fnOf name qual params [cZ dn en x cx cp xp ep ap hp' rq np dp rp tp] scope dV kV doc pm an cdv ct),osl⟩) (hcd:PySem.W.codeIn K cdv qual=true) (S:FnScope N [dn] scope)
  (h0:N[0]? =some dn) (h1:N[1]? =some en) (hdl:scope.names.lookup dn=some .local) (hel:scope.names.lookup en=some .local) (hdd:(dn==("__debug__":Str))=false) (hdk:(dn==("__classdict__":Str))=false) (hed:(en==("__debug__":Str))=false) (hek:(en==("__classdict__":Str))=false)
  (hmx:mg x=some (.ref fa)) (hdx:(x==("__debug__":Str))=false) (hkx:PySem.W.keepIn K (.ref fa)=true)
  (hfx:FnOkQ P w K mg base (CXe P w) kf fa fd [q1] (spOf K ad 1 F)) (hbx:Binds K fd [q1] []) (hkf:kf≤k) (hmc:mg cx=some (.ref (ad.cls 0))) (hcb:(cx==("__debug__":Str))=false) (hx: ∀ c,exmOne K (.ref (ad.cls c)) (.ref (ad.cls 0))=some true)
  (hglx: ∀ X:Cx,X.env.scope=scope→L2.Gl X x) (hglc: ∀ X:Cx,X.env.scope=scope→L2.Gl X cx)
  (hr:Room (k+1) A) (e0:Env0 P w K mg base A outer s H) (hb:BindsTo s (PySem.W.fnOf name qual params [cZ dn en x cx cp xp ep ap hp' rq np dp rp tp] scope dV kV doc pm an cdv ct) args [(dn, .ref a)]) (hfn:PySem.W.FnAt a s.heap)
  (hdeed:Deed P w K mg base ad k s G H a r) (hG:Same G H) (hq:RK K ad G H (toldR F r) Q fun _ _=>False):
  codeAny (model P w) A (.call (.ref f) args) (CR (CXe P w) outer P w H s Q E) s:=by
 have KX:K.In s.heap:=e0.mod.kin.keeps fun b o e=>(e0.bs b o e).1
 have lim:s.heap.NoLimit:=e0.mod.nolimit.keeps fun b o e=>(e0.bs b o e).1
 have hkind: ∀ y∈[(dn,Value.ref a)],scope.names.lookup y.1=some .local∨(scope.names.lookup y.1=some .cell∧((cellsFrom (s.heap.objs.size+1) scope.names []).lookup y.1).isSome=true):=fun y hy=>by
  rw [List.mem_singleton.mp hy]
  exact .inl hdl
 refine codeAny_call_function hr.depth (KX _ _ lk) rfl S.co S.gen rfl (PySem.W.codeRec_of KX hcd) (hb _ _ _ _ ?_)
 refine wpAny_newFunctionEnv_cells S.kind hkind fun env he s1 y=> ?_
 subst he
 refine⟨lim.keeps y.toInCall.keep,codeAny_func ?_⟩
 let X:=cxOf (CXe P w) P w K mg base N qual scope f cdv A outer s H E
 have I:Inv X [] (start N [.ref a]) H s1:=bO (vs:=[.ref a]) (us:=[.ref a]) (ps:=[dn]) S hr.hd e0 rfl (.cons rfl .nil) y
 have hk:=y.toInCall.keep
 let D':Ends:={ nx:=fun _ H'=>Q .non H',rt:=Q }
 have main:wpAny (model P w) X.A (execs [cZ dn en x cx cp xp ep ap hp' rq np dp rp tp] X.env) (SP X [] D') X.xe s1:=by
  let hd:ExceptHandler:= .ExceptHandler (some (.Name cx cp)) (some en) [.Return (some (.Call (.Name x xp) [.Name en ep] [] ap)) rq] hp'
  have I':Inv (tX X [] D' hd) [] (start N [.ref a]) H s1:=yC I
  refine wpAny_execs_cons (L2.thn (Q:=SP X [] D') (wpAny_Try_except ?_) fun fl s2 hs=> ?_)
  ·show wpAny (model P w) (tX X [] D' hd).A (execs _ (tX X [] D' hd).env) _ (tX X [] D' hd).xe s1
   refine wpAny_execs_cons (wpAny_Return_some (wpAny_Call_Name_kw ?_))
   obtain⟨m5,hn5,hl5⟩:=I.loc
   obtain⟨u5,r5,l5⟩:=hl5 0 dn (.ref a) h0 rfl (.inl hdl)
   cases (show u5=Value.ref a from r5)
   have hm5:m5 dn=some (.ref a):=by
    have hk:X.env.kindOf dn=some .local:=hdl
    rcases l5 with ⟨_,e⟩ | ⟨k,_⟩
    ·exact e
    ·rcases k with k | k<;>(rw [hk] at k;cases k)
   refine wpAny_Name (wpAny_loadName_local I.ok.kind hdl hn5 hm5 ?_) hdd
   have hfn1:PySem.W.FnAt a s1.heap:=by
    obtain⟨oc,od,fd,sl,e⟩:=hfn
    exact⟨oc,od,fd,sl,hk _ _ e⟩
   refine PySem.W.callWith_F0 hfn1 (wpAny_call ?_)
   refine codeAny_mono (hdeed (tX X [] D' hd).A (tX X [] D' hd).stack s1 Q (xk ad fun c H'=>r= .ex c∧ ∃ G',Step G H G' H') (hr.deeper _) I'.env0 hk ?_) fun res s2 hres=> ?_
   ·cases r with
    | ok d=>exact hq
    | ow xs=>exact hq
    | ex c=>exact fun G' H' st=>⟨c,rfl,rfl,G',st⟩
    | bad=>exact hq
   ·cases res with
    | error e=>
     obtain⟨ea,cls,a0,H',B,rfl,ho,hgn,fly,un,hok,ne,c8,c9,c,rfl,rc,G',st⟩:=hres
     subst rc
     have st2:Step G' H' (upd G' ea (excO (ad.cls c) ea)) (upd H' ea (excO (ad.cls c) ea)):=Step.new st.gh ne
     refine j9 (X:=X) (i:=1) (kf:=kf) (fa:=fa) (F:=F) (fd:=fd) (q1:=q1) ⟨rfl,rfl,rfl⟩ S.nd h1 hel hek (hglx X rfl) hmx hdx hkx hfx hbx (fun v=>⟨?_, ?_⟩) (hglc X rfl) hmc hcb hed (hx c) I ho hgn fly un hok ne c8 c9 ⟨upd G' ea (excO (ad.cls c) ea),(st.trans st2).gh, ?_, ?_⟩
     ·have:=(hr.deeper X.env).dp
      show X.A.depth+3 * kf+5<_
      have e:X.A=A.deeper X.env:=rfl
      rw [e]
      omega
     ·have:=(hr.deeper X.env).un
      show X.A.units+16 * kf+200<_
      have e:X.A=A.deeper X.env:=rfl
      rw [e]
      omega
     ·unfold Rep
      exact⟨ea,rfl,aE⟩
     ·have hq2:RK K ad _ _ (match F [.exc c] with | .ok d=> .ok d | .ow xs=> .ow xs | _=> .bad) Q fun _ _=>False:=RK.step hq (st.trans st2)
      cases e:F [.exc c] with
      | ok d=>rw [e] at hq2;exact hq2
      | ow xs=>rw [e] at hq2;exact hq2
      | ex c'=>rw [e] at hq2;exact hq2.elim
      | bad=>rw [e] at hq2;exact hq2.elim
    | ok fl=>
     cases fl with
     | next=>exact False.elim hres
     | brk=>exact False.elim hres
     | cont=>exact False.elim hres
     | ret u=>
      obtain⟨v,H',J,rv,q⟩:=Inv.after I' hres
      exact⟨v,_,H',wE J,rv,q⟩
  ·cases fl with
   | next=>exact wpAny_execs_nil hs
   | brk=>exact hs
   | cont=>exact hs
   | ret u=>exact hs
 refine wpAny_mono main (fun fl s' hs=> ?_) fun e s' hs=>hs
 have fin: ∀ {σ':St} {H':Hp} {v:V} {u:Value},Inv X [] σ' H' s'→RelV v u→Q v H'→CE outer P w H s Q u s':=
  fun {σ' H' v u} J rv q=>⟨v,H',J.os,J.bare,J.base,J.hok,rv,q⟩
 cases fl with
 | ret u=>
  obtain⟨v,σ',H',J,rv,q⟩:=hs
  exact fin J rv q
 | next=>
  obtain⟨σ',H',J,q⟩:=hs
  exact fin (v:=V.non) (u:=Value.none) J rfl q
 | brk=>
  obtain⟨_,_,_,q⟩:=hs
  exact False.elim q
 | cont=>
  obtain⟨_,_,_,q⟩:=hs
  exact False.elim q
end
noncomputable def isIsin:Option SK.Gl→Bool
 | some (.py .isin)=>true
 | _=>false
theorem m9 {g:Option SK.Gl} (h:isIsin g=true):g=some (.py .isin):=by
 unfold isIsin at h
 split at h
 ·rfl
 ·cases h
noncomputable def qL (C:SK.Ctx):Expr→Option F
 | .Name x _=>(loc C x).map rLook
 | _=>none
noncomputable def qE:Nat→SK.Ctx→Expr→Option F
 | 0,_,_=>none
 | n+1,C,e=>match e with
  | .Name x _=>(loc C x).map rVar
  | .Constant c _ _=>(kD c).map rK
  | .BinOp a op b _=>(qE n C a).bind fun f=>(qE n C b).map fun g=>rBin op f g
  | .List es _=>if es.length≤1000 then(mapO (qE n C) es).map rLst else none
  | .Subscript a b _=>(qL C a).bind fun f=>(qE n C b).map fun g=>rIx f g
  | .Call f as kws cp=>if kws.isEmpty then(match f with
   | .Name x _=>if isIsin (glo C x) then(two as).bind fun(a,t)=>(vName t).bind fun(tn,_)=>(qE n C a).bind fun fa=>(glo C tn).bind fun g=>(isP g).map fun P=>rIs P fa else none
   | .Attribute o m ap=>(one as).bind fun a=>if(ap.endLine==cp.line)=true then(qL C o).bind fun f=>(qE n C a).bind fun g=>if m="count" then some (rMeth dCount f g) else if m="index" then some (rMeth dIndex f g) else none else none
   | _=>none) else none
  | _=>none
noncomputable def qT:Nat→SK.Ctx→Expr→Option F
 | 0,_,_=>none
 | n+1,C,e=>match e with
  | .BoolOp .Or [a,b] _=>(qT n C a).bind fun f=>(qT n C b).map fun g=>rOr f g
  | .UnaryOp .Not a _=>(qT n C a).map rNot
  | .Compare a [op] [b] _=>(qE n C a).bind fun f=>(qE n C b).map fun g=>rCmp op f g
  | .Call f as kws cp=>qE n C (.Call f as kws cp)
  | _=>none
mutual
noncomputable def qS:Nat→SK.Ctx→Stmt→Option FS
 | 0,_,_=>none
 | n+1,C,st=>match st with
  | .Assign [.Name x _] e _=>(loc C x).bind fun i=>(qE n C e).map fun f=>sSet i f
  | .If c a b _=>(qT n C c).bind fun f=>(qSs n C a).bind fun g=>(qSs n C b).map fun h=>sIf f g h
  | .Return (some e) _=>(qE n C e).map sRet
  | _=>none
noncomputable def qSs:Nat→SK.Ctx→List Stmt→Option FS
 | 0,_,_=>none
 | n+1,C,l=>match l with
  | []=>some sPass
  | st::r=>(qS n C st).bind fun g=>(qSs n C r).map fun h=>sSeq g h
end
structure QOk (X:Cx) (ad:Ad) (C:SK.Ctx):Prop where
 nd:X.N.Nodup
 vis: ∀ x i,loc C x=some i→X.N[i]? =some x∧Vis X.env.scope x∧(x==("__debug__":Str))=false∧(x==("__classdict__":Str))=false
 nm: ∀ x i,loc C x=some i→NmOk X x i
 isn: ∀ x,glo C x=some (.py .isin)→x="isinstance"∧L2.Gl X "isinstance"∧X.mg "isinstance"=none
 cls: ∀ t g P,glo C t=some g→isP g=some P→ ∃ cv,ClNm X t cv∧IsOk X ad cv P
 un:X.A.units+62<cLine
 exc: ∀ c,ExcCls X.K (ad.cls c)
section
variable {X X0:Cx} {ad:Ad} {C:SK.Ctx} {A:Around} {Ex:Value→Shared→Prop}
theorem w6 (O:StOk X0 ad C) (hu:A.units+62<cLine):QOk (qX X0 A Ex) ad C:=by
 refine⟨O.cx.nd,O.cx.vis,fun x i h=>O.nm h,fun x h=> ?_,fun t g P h e=> ?_,hu,O.cx.exc⟩
 ·obtain⟨g1,g2,g3,g4⟩:=O.cx.gl h
  cases (show x="isinstance" from g3)
  exact⟨rfl,g1,g4⟩
 ·obtain⟨cv,c,k⟩:=iY O.cx h e
  refine⟨cv, ?_,k⟩
  cases c with
  | blt T e g m b n d=>exact .blt T e g m b n d
  | own C e g m d=>exact .own C e g m d
theorem w8 (O:QOk X ad C) {e:Expr} {f:F} (h:qL C e=some f):ML X ad e f∧ ∃ x p,e= .Name x p:=by
 unfold qL at h
 split at h
 ·rename_i x p
  obtain⟨i,e1,rfl⟩:=zMd h
  obtain⟨v1,v2,v3,v4⟩:=O.vis x i e1
  exact⟨gX v1 v2 v3 v4,x,p,rfl⟩
 ·cases h
theorem bM {n:Nat} {e:Expr} {f:F} (h:qE n C e=some f):notSt e∧notSet e∧(∀ a b c d,e≠ .Slice a b c d)∧ ∀ a b c d,e≠ .ListComp a b c d:=by
 cases n with
 | zero=>cases h
 | succ n=>cases e<;>first | (cases h;done) | exact⟨trivial,trivial,(fun _ _ _ _ z=>nomatch z),(fun _ _ _ _ z=>nomatch z)⟩
theorem qM {n:Nat} (hE: ∀ e f,qE n C e=some f→ME X ad e f): ∀ {es:List Expr} {fs:List F},mapO (qE n C) es=some fs→MA X ad es fs
 | [],fs,h=>by
  cases h
  exact kU
 | e::es,fs,h=>by
  unfold mapO at h
  cases e1:qE n C e with
  | none=>rw [e1] at h;cases h
  | some f=>
   rw [e1] at h
   obtain⟨r,h1,h2⟩:=zMd h
   subst h2
   exact eP (hE e f e1) (qM hE h1) (aB (bM e1).1)
theorem kA (O:QOk X ad C): ∀ (n:Nat) (e:Expr) (f:F),qE n C e=some f→ME X ad e f
 | 0,_,_,h=>by cases h
 | n+1,e,f,h=>by
  have hE:=kA O n
  unfold qE at h
  split at h
  ·rename_i x p
   obtain⟨i,e1,rfl⟩:=zMd h
   obtain⟨v1,v2,v3,v4⟩:=O.vis x i e1
   exact fN v1 v2 v3 v4
  ·obtain⟨d,h1,rfl⟩:=zMd h
   exact iI h1
  ·obtain⟨fa,h1,h⟩:=zBd h
   obtain⟨fb,h2,rfl⟩:=zMd h
   exact pX (hE _ fa h1) (hE _ fb h2)
  ·split at h
   ·rename_i hl
    obtain⟨fs,h1,rfl⟩:=zMd h
    exact p7 (qM hE h1) (by rw [bW h1];exact hl)
   ·cases h
  ·obtain⟨fa,h1,h⟩:=zBd h
   obtain⟨fb,h2,rfl⟩:=zMd h
   exact vU (w8 O h1).1.lk (hE _ fb h2) (eX (bM h2).2.2.1)
  ·rename_i fe as kws cp
   split at h
   ·rename_i hk
    cases List.isEmpty_iff.mp hk
    split at h
    ·rename_i x p
     split at h
     ·rename_i hi
      obtain⟨rfl,g1,g2⟩:=O.isn x (m9 hi)
      have hx:=zBd h
      clear h
      obtain⟨⟨a,t⟩,h0,h⟩:=hx
      cases dW h0
      have hx:=zBd h
      clear h
      obtain⟨⟨tn,tp⟩,hv,h⟩:=hx
      cases aF hv
      obtain⟨fa,h1,h⟩:=zBd h
      obtain⟨g,h2,h⟩:=zBd h
      obtain⟨P,h3,rfl⟩:=zMd h
      obtain⟨cv,c1,c2⟩:=O.cls tn g P h2 h3
      exact lU O.exc g1 g2 c1 c2 (hE _ fa h1) (aB (bM h1).1)
     ·cases h
    ·rename_i o m ap
     have hx:=zBd h
     clear h
     obtain⟨a,h0,h⟩:=hx
     cases aU h0
     split at h
     ·rename_i hl
      have hx:=zBd h
      clear h
      obtain⟨fo,h1,h⟩:=hx
      have hx:=zBd h
      clear h
      obtain⟨fa,h2,h⟩:=hx
      obtain⟨ho,x,p,rfl⟩:=w8 O h1
      split at h
      ·rename_i hm
       cases h
       subst hm
       exact iZ O.un ho (hE _ fa h2) (aB (bM h2).1) rfl hl
      ·split at h
       ·rename_i hm
        cases h
        subst hm
        exact i0 O.un ho (hE _ fa h2) (aB (bM h2).1) rfl hl
       ·cases h
     ·cases h
    ·cases h
   ·cases h
  ·cases h
theorem w9 (O:QOk X ad C): ∀ (n:Nat) (e:Expr) (f:F),qT n C e=some f→MT X ad e f
 | 0,_,_,h=>by cases h
 | n+1,e,f,h=>by
  have hT:=w9 O n
  unfold qT at h
  split at h
  ·obtain⟨fa,h1,h⟩:=zBd h
   obtain⟨fb,h2,rfl⟩:=zMd h
   exact mU (rJ (hT _ fa h1) (kS (hT _ fb h2)))
  ·obtain⟨fa,h1,rfl⟩:=zMd h
   exact p5 (hT _ fa h1)
  ·obtain⟨fa,h1,h⟩:=zBd h
   obtain⟨fb,h2,rfl⟩:=zMd h
   exact vS O.un (kA O n _ fa h1) (kA O n _ fb h2) (bI (bM h2).2.1)
  ·exact p4 (kA O n _ _ h) (fun _=>rfl)
  ·cases h
theorem xA (O:QOk X ad C) {Z:(St→Nat→Hp→Prop)→Prop}: ∀ n:Nat,(∀ st g,qS n C st=some g→MS X ad Z st g)∧ ∀ l g,qSs n C l=some g→MSs X ad Z l g
 | 0=>⟨(fun _ _ h=>by cases h),(fun _ _ h=>by cases h)⟩
 | n+1=>by
  obtain⟨hS,hSs⟩:=xA O (Z:=Z) n
  refine⟨fun st g h=> ?_,fun l g h=> ?_⟩
  ·unfold qS at h
   split at h
   ·rename_i x p e pos
    obtain⟨i,h1,h⟩:=zBd h
    obtain⟨f,h2,rfl⟩:=zMd h
    have nm:=O.nm x i h1
    refine mW (iE O.nd nm.1 nm.2.1 (kA O n _ f h2) ?_ nm.2.2)
    have nf:=(bM h2).2.2.2
    cases e<;>first | rfl | exact absurd rfl (nf _ _ _ _) | (cases n<;>cases h2;done)
   ·obtain⟨f,h1,h⟩:=zBd h
    obtain⟨ga,h2,h⟩:=zBd h
    obtain⟨gb,h3,rfl⟩:=zMd h
    exact v6 (w9 O n _ f h1) (hSs _ ga h2) (hSs _ gb h3)
   ·obtain⟨f,h1,rfl⟩:=zMd h
    exact iV (kA O n _ f h1)
   ·cases h
  ·unfold qSs at h
   split at h
   ·cases h
    exact g8
   ·obtain⟨ga,h1,h⟩:=zBd h
    obtain⟨gb,h2,rfl⟩:=zMd h
    exact iU (hS _ ga h1) (hSs _ gb h2)
end
noncomputable def noEx:R→R
 | .ex _=> .bad
 | r=>r
noncomputable def qFn (tab:List (Str×SK.Gl)) (st:Stmt):Option (Nat×Fn):=match st with
 | .FunctionDef _ as b _ _ _ sc _ _ _=>(parsOf as).bind fun ps=>if scopeOk (namesOf sc) ps sc then(qSs 100 ⟨tab,[],sc,namesOf sc,[]⟩ b).map fun g=>(ps.length,fun ds=>noEx (SK.fnOf (namesOf sc).length g ds)) else none
 | _=>none
noncomputable def quiet (A:Around):Around:={ A with handled:=none }
theorem RoomQ.room {k:Nat} {A:Around} (r:RoomQ k A):Room k (quiet A):=⟨rfl,r.dp,r.un⟩
theorem RoomQ.deeper {k:Nat} {A:Around} (r:RoomQ (k+1) A) (env:PySem.Env):RoomQ k (A.deeper env):=
 ⟨by have:=r.dp;show A.depth+1+3 * k+5<_;omega,by have:=r.un;show A.units+3+16 * k+200<_;omega⟩
section
variable {P:Program} {w:World} {K:Frag} {mg:Str→Option Value} {base:Heap} {ad:Ad} {k:Nat} {tab:List (Str×SK.Gl)}
theorem tU {x qual:Str} {st:Stmt} {f:Addr} {fd:FuncData} {n:Nat} {F:Fn} {ps:List Str} (B:ExcK K ad) (TB:TabOk P w K mg base ad k tab) (Fu:Fun K x qual st f fd) (hps:parsOf (defArgs st)=some ps)
  (hd:qFn tab st=some (n,F)):FnOkQ P w K mg base (CXe P w) (k+1) f fd ps (spOf K ad n F):=by
 obtain⟨oc,od,kV,doc,pm,an,cdv,ct,osl,rfl,lk,hcd⟩:=Fu.ex
 cases st with
 | FunctionDef nm as b dl re tp sc ts bi pos=>
  have hd':((parsOf as).bind fun Ps=>if scopeOk (namesOf sc) Ps sc then(qSs 100 ⟨tab,[],sc,namesOf sc,[]⟩ b).map fun g=>(Ps.length,fun ds=>noEx (SK.fnOf (namesOf sc).length g ds)) else none)=some (n,F):=hd
  have hps':parsOf as=some ps:=hps
  rw [hps'] at hd'
  have hd2:(if scopeOk (namesOf sc) ps sc then(qSs 100 ⟨tab,[],sc,namesOf sc,[]⟩ b).map fun g=>(ps.length,fun ds=>noEx (SK.fnOf (namesOf sc).length g ds)) else none)=some (n,F):=hd'
  by_cases hs:scopeOk (namesOf sc) ps sc=true
  ·rw [if_pos hs] at hd2
   obtain⟨g,hg,e⟩:=zMd hd2
   cases e
   obtain⟨S,nm⟩:=a8 hs
   refine⟨fun vs H Q E ⟨G,ds,_,r,hl,_⟩=>by rw [r.length,hl],fun A outer s H args us vs Q E hr e0 hb r hsp=> ?_⟩
   have hl:vs.length=ps.length:=by obtain⟨G,ds,_,r,hl,_⟩:=hsp;rw [r.length,hl]
   have KX:K.In s.heap:=e0.mod.kin.keeps fun b o e=>(e0.bs b o e).1
   have lim:s.heap.NoLimit:=e0.mod.nolimit.keeps fun b o e=>(e0.bs b o e).1
   have hkind: ∀ y∈ps.zip us,sc.names.lookup y.1=some .local∨(sc.names.lookup y.1=some .cell∧((cellsFrom (s.heap.objs.size+1) sc.names []).lookup y.1).isSome=true):=fun⟨n,v⟩ hy=>by
    rcases S.par n (List.of_mem_zip hy).1 with q | q
    ·exact .inl q
    ·exact .inr ⟨q,PySem.W.cellsFrom_some _ _ _ (.inl q)⟩
   have hdep:A.depth<recursionLimit:=by have:=hr.dp;omega
   refine codeAny_call_function hdep (KX _ _ lk) rfl S.co S.gen rfl (PySem.W.codeRec_of KX hcd) (hb _ _ _ _ ?_)
   refine wpAny_newFunctionEnv_cells S.kind hkind fun env he s1 y=> ?_
   subst he
   refine⟨lim.keeps y.toInCall.keep,codeAny_func ?_⟩
   have e1:Env0 P w K mg base (quiet A) outer s H:=⟨e0.frames,e0.mod,e0.bs,e0.bsz,e0.funs,e0.frf,e0.hok,e0.bare⟩
   let X0:=cxOf (CXe P w) P w K mg base (namesOf sc) qual sc f cdv (quiet A) outer s H E
   have I0:Inv X0 [] (L2.start (namesOf sc) vs) H s1:=bO S rfl e1 hl r y
   let X:=qX X0 (A.deeper (envOfC qual sc s.heap.objs.size f cdv)) (fun e s'=>wpAny (model P w) (A.deeper (envOfC qual sc s.heap.objs.size f cdv)) (leaving (envOfC qual sc s.heap.objs.size f cdv) e) (fun _ s''=>CXe P w outer H s E e s'') (fun e' s''=>CXe P w outer H s E e' s'') s')
   have I:Inv X [] (L2.start (namesOf sc) vs) H s1:=wZ rfl I0
   have hr2:Room k X0.A:=(hr.deeper _).room
   let C:SK.Ctx:=⟨tab,[],sc,namesOf sc,[]⟩
   have vis: ∀ x i,loc C x=some i→(namesOf sc)[i]? =some x∧Loc sc x∧x∈namesOf sc:=fun x i e=>by
    obtain⟨e1,e2⟩:=dQ e
    refine⟨bE e1, ?_,dP e1⟩
    rcases e2 with e2 | e2 | e2
    ·exact .inl e2
    ·exact .inr e2
    ·exact absurd rfl (S.nofree _ (aY e2))
   have O:StOk X0 ad C:=by
    refine⟨⟨rfl,S.nd,fun x i e=> ?_,fun x e=>e,fun x g e=> ?_,fun x i e=> ?_,rfl, ?_,hr2.hd,B.exc,B.kin,B.kve,fun j m F' e=>by cases e⟩,fun _=>rfl,rfl,fun x i e=>(vis x i e).2.1,B.exm,B.exi⟩
    ·obtain⟨a,b,c⟩:=vis x i e
     exact⟨a,b.elim .inl fun z=> .inr (.inl z),(nm x c).1,(nm x c).2⟩
    ·obtain⟨a,b⟩:=TB x g e
     refine⟨a, ?_⟩
     cases g with
     | fn j m F'=>
      obtain⟨r',f',h1,h2,h3,h4,h5⟩:=b
      exact⟨r',f',⟨h2,h3,h4⟩,hr2.mono h1,h5⟩
     | exc c=>exact b
     | verr=>exact b
     | val d=>exact b
     | py p=>exact b
    ·obtain⟨e1,e2⟩:=aX e
     rcases e2 with e2 | e2
     ·exact .inl e2
     ·exact absurd rfl (S.nofree _ (aY e2))
    ·exact Nat.lt_of_le_of_lt (Nat.add_le_add_left (by decide:62≤64) _) hr2.units
   have OQ:QOk X ad C:=w6 O (Nat.lt_of_le_of_lt (Nat.add_le_add_left (by decide:62≤64) _) hr2.units)
   obtain⟨G,ds,hG,rr,hl',hq⟩:=hsp
   have main:wpAny (model P w) X.A (execs b X.env) (SP X [] { nx:=fun _ H'=>Q .non H',rt:=Q }) X.xe s1:=by
    refine(xA OQ (Z:=fun _=>True) 100).2 b g hg [] s1 _ H _ I ⟨G,G,ds.map Slot.sh++List.replicate ((namesOf sc).length - ds.length) .no,fun _ _ _=>False, ?_,⟨fun σ pins H s e s' _ hc=> ?_,trivial⟩, ?_⟩
    ·have:=cY (X:=X) (ad:=ad) (n:=(namesOf sc).length - ds.length) hG rr
     unfold L2.start
     rw [rr.length]
     exact this
    ·obtain⟨_,_,_,_,_,_,_,_,_,_,_,_,_,_,_,_,z⟩:=hc
     exact z.elim
    ·have hq':RK K ad G H (noEx (match g (ds.map Slot.sh++List.replicate ((namesOf sc).length - ds.length) .no) with
      | .rt (.ok d)=> .ok d
      | .rt (.ow xs)=> .ow xs
      | .rt _=> .bad
      | .nx _=> .ok .non
      | .ex c _=> .ex c
      | _=> .bad)) Q (fun c H'=>E (.ref (ad.cls c)) none H'):=hq
     cases e:g (ds.map Slot.sh++List.replicate ((namesOf sc).length - ds.length) .no) with
     | nx ρ=>rw [e] at hq';exact fun σ G' H' S'=>hq' .non G' H' S'.st (by unfold Rep;rfl)
     | bk ρ=>rw [e] at hq';exact hq'.elim
     | ct ρ=>rw [e] at hq';exact hq'.elim
     | ex c ρ=>rw [e] at hq';exact hq'.elim
     | rt r'=>
      rw [e] at hq'
      cases r' with
      | ok d=>exact hq'
      | ow xs=>exact hq'
      | ex c=>exact hq'.elim
      | bad=>exact hq'.elim
   refine wpAny_mono main (fun fl s' hs=> ?_) fun e s' hs=>hs
   have fin: ∀ {σ':St} {H':Hp} {v:V} {u:Value},Inv X [] σ' H' s'→RelV v u→Q v H'→CE outer P w H s Q u s':=
    fun {σ' H' v u} J rv q=>⟨v,H',J.os,J.bare,J.base,J.hok,rv,q⟩
   cases fl with
   | ret u=>
    obtain⟨v,σ',H',J,rv,q⟩:=hs
    exact fin J rv q
   | next=>
    obtain⟨σ',H',J,q⟩:=hs
    exact fin (v:=V.non) (u:=Value.none) J rfl q
   | brk=>
    obtain⟨_,_,_,q⟩:=hs
    exact False.elim q
   | cont=>
    obtain⟨_,_,_,q⟩:=hs
    exact False.elim q
  ·rw [if_neg hs] at hd2
   cases hd2
 | _=>cases hd
end
structure TbD (P:Addr) (q:Str) (ps0 ps:Array Value) (cs pl:List (Addr×Obj)):Prop where
 tb:Tb P q ps cs
 gr: ∃ more,ps=ps0++more
 nP: ∀ r∈pl,r.1≠P
 dj: ∀ p∈cs, ∀ r∈pl,p.1≠r.1
noncomputable abbrev pnL (P:Addr) (ps:Array Value) (cs pins:List (Addr×Obj)):List (Addr×Obj):=(P,PySem.W.tabObj ps)::(cs++pins)
def SPL (X:Cx) (P:Addr) (q:Str) (ps0:Array Value) (pins:List (Addr×Obj)) (D:Ends) (f:Flow) (s':Shared):Prop:=
 ∃ ps cs,TbD P q ps0 ps cs (X.pn++pins)∧SP X (pnL P ps cs pins) D f s'
def LPS (X:Cx) (P:Addr) (q:Str) (ps0:Array Value) (st:Stmt) (t:TS):Prop:=
 ∀ (pins:List (Addr×Obj)) (ps:Array Value) (cs:List (Addr×Obj)) (s:Shared) (σ:St) (H:Hp) (D:Ends),TbD P q ps0 ps cs (X.pn++pins)→Inv X (pnL P ps cs pins) σ H s→t D σ H→
  wpAny (model X.prog X.w) X.A (exec st X.env) (SPL X P q ps0 pins D) X.xe s
def LPSs (X:Cx) (P:Addr) (q:Str) (ps0:Array Value) (st:List Stmt) (t:TS):Prop:=
 ∀ (pins:List (Addr×Obj)) (ps:Array Value) (cs:List (Addr×Obj)) (s:Shared) (σ:St) (H:Hp) (D:Ends),TbD P q ps0 ps cs (X.pn++pins)→Inv X (pnL P ps cs pins) σ H s→t D σ H→
  wpAny (model X.prog X.w) X.A (execs st X.env) (SPL X P q ps0 pins D) X.xe s
section
variable {X:Cx} {P:Addr} {q:Str} {ps0:Array Value} {st:Stmt} {rest:List Stmt} {t u t':TS} {pos:Pos} {ad:Ad} {Z:(St→Nat→Hp→Prop)→Prop} {f:F} {g h:FS}
theorem LPS.imp (a:LPS X P q ps0 st t) (k: ∀ D σ H,t' D σ H→t D σ H):LPS X P q ps0 st t':=fun pins ps cs s σ H D T I w=>a pins ps cs s σ H D T I (k D σ H w)
theorem LPSs.imp (a:LPSs X P q ps0 rest t) (k: ∀ D σ H,t' D σ H→t D σ H):LPSs X P q ps0 rest t':=fun pins ps cs s σ H D T I w=>a pins ps cs s σ H D T I (k D σ H w)
theorem xB (a:PS X st t):LPS X P q ps0 st t:=fun pins ps cs s σ H D T I w=>L2.thn (a _ s σ H D I w) fun f s' hs=>⟨ps,cs,T,hs⟩
theorem tV (a:PSs X rest t):LPSs X P q ps0 rest t:=fun pins ps cs s σ H D T I w=>L2.thn (a _ s σ H D I w) fun f s' hs=>⟨ps,cs,T,hs⟩
theorem nA (h1:LPS X P q ps0 st t) (h2:LPSs X P q ps0 rest u):LPSs X P q ps0 (st::rest) (tSeq t u):=by
 intro pins ps cs s σ H D T I h
 refine wpAny_execs_cons (L2.thn (h1 pins ps cs s σ H { D with nx:=u D } T I h) fun f s1 hq=> ?_)
 obtain⟨ps1,cs1,T1,hq⟩:=hq
 cases f with
 | next=>
  obtain⟨σ',H',I',hq⟩:=hq
  exact h2 pins ps1 cs1 s1 σ' H' D T1 I' hq
 | ret v=>exact⟨ps1,cs1,T1,hq⟩
 | brk=>exact⟨ps1,cs1,T1,hq⟩
 | cont=>exact⟨ps1,cs1,T1,hq⟩
theorem xC {c:Expr} {a b:List Stmt} {tc:TT} (hc:PT X c tc) (ha:LPSs X P q ps0 a t) (hb:LPSs X P q ps0 b u):LPS X P q ps0 (.If c a b pos) (tIfS tc t u):=by
 intro pins ps cs s σ H D T I h
 refine wpAny_If (L2.thn (hc _ s σ H _ I h) fun d s1 hz_=> ?_)
 obtain⟨H1,I1,q1⟩:=hz_
 cases d with
 | true=>exact ha pins ps cs s1 σ H1 D T I1 q1
 | false=>exact hb pins ps cs s1 σ H1 D T I1 q1
theorem tW {iter tg:Expr} {body:List Stmt} {wi:L2.TI} {gg:L2.TG} {tb:TS} (hp:PassesOwn (model X.prog X.w) X.A X.env X.xe) (hc:X.calm=true) (hi:PI X tg iter wi) (hg:PG X tg gg) (hb:LPSs X P q ps0 body tb)
  (hs: ∀ x,foldedSetIterable iter X.env x=pure x):LPS X P q ps0 (.For tg iter body [] pos) (tFor wi gg tb):=by
 intro pins ps cs s σ H D T0 I h
 refine wpAny_For (L2.thn (hi _ s σ H _ I h) fun v s1 h1=>L2.thn h1 fun itv s2 h2=> ?_) hs
 obtain⟨it,fp,tn,J,H2,e,I2,T,st2,f2,W,⟨m0,w0⟩,turn⟩:=h2
 subst e
 -- what stays true of the iterator's objects, whatever stands in the table
 have stat: ∀ {H':Hp} {ps':Array Value} {cs':List (Addr×Obj)},(∀ b∈fp,H' b=none)→(∀ b∈fp, ∀ p∈cs',p.1≠b)→ ∀ b∈fp,FpOk X (pnL P ps' cs' pins) H' b:=fun {H' ps' cs'} hn hd b hb=>by
  obtain⟨_,a1,a2,a3,a4,a5⟩:=f2 b hb
  refine⟨hn b hb,a1,a2,a3,a4,fun p hp=> ?_⟩
  rcases List.mem_append.mp hp with z | z
  ·exact a5 p (List.mem_append_left _ z)
  ·rcases List.mem_cons.mp z with rfl | z
   ·exact a5 (P,PySem.W.tabObj ps) (List.mem_append_right _ (.head _))
   ·rcases List.mem_append.mp z with z | z
    ·exact hd b hb p z
    ·exact a5 p (List.mem_append_right _ (.tail _ (List.mem_append_right _ z)))
 have d0: ∀ b∈fp, ∀ p∈cs,p.1≠b:=fun b hb p hp=>(f2 b hb).2.2.2.2.2 p (List.mem_append_right _ (.tail _ (List.mem_append_left _ hp)))
 have nPb: ∀ b∈fp,P≠b:=fun b hb=>(f2 b hb).2.2.2.2.2 (P,PySem.W.tabObj ps) (List.mem_append_right _ (.head _))
 refine codeAny_forLoop_any (fun n s'=> ∃ i σ' H' ps' cs',TbD P q ps0 ps' cs' (X.pn++pins)∧(∀ b∈fp, ∀ p∈cs',p.1≠b)∧Inv X (pnL P ps' cs' pins) σ' H' s'∧tn i s'.heap∧(∀ b∈fp,H' b=none)∧W i n σ' H') ?_ m0 ⟨0,σ,H2,ps,cs,T0,d0,I2,st2,fun b hb=>(f2 b hb).1,w0⟩
 rintro n s3 ⟨i,σ3,H3,ps3,cs3,T3,d3,I3,st3,fr3,w3⟩
 rcases turn i n σ3 H3 w3 with ⟨stop,qn⟩ | ⟨go,N,hN,step⟩
 ·refine wpAny_passesOwn hp (L2.thn (T.done X rfl rfl rfl hc i _ s3 σ3 H3 X.xe I3 (stat fr3 d3) st3 stop) fun r s4 hz_=> ?_)
  obtain⟨hr,I4⟩:=hz_
  subst hr
  exact wpAny_execs_nil ⟨ps3,cs3,T3,σ3,H3,I4,qn⟩
 ·refine wpAny_passesOwn hp (L2.thn (T.item X rfl rfl rfl hc i _ s3 σ3 H3 X.xe I3 (stat fr3 d3) st3 go) fun r s4 hz_=> ?_)
  obtain⟨u,hr,h4⟩:=hz_
  subst hr
  refine wpAny_passesOwn hp (L2.thn h4 fun _ s5 hz_=> ?_)
  obtain⟨x,H5,I5,r5,y5,st5,fr5⟩:=hz_
  have I5':=I5.pinned (stat fr5 d3) (T.obj _ _ st5)
  refine wpAny_passesOwn hp (L2.thn (hg _ s5 σ3 H5 x u _ I5' r5 (step x H5 y5)) fun _ s6 hz_=> ?_)
  obtain⟨σ6,H6,I6,q6⟩:=hz_
  have ep: ∀ (ps':Array Value) (cs':List (Addr×Obj)),pnL P ps' cs' pins++pinsAt fp s5.heap=pnL P ps' cs' (pins++pinsAt fp s5.heap):=fun ps' cs'=>by
   show _::(cs'++pins++_)=_::(cs'++(pins++_))
   rw [List.append_assoc]
  rw [ep] at I6
  have T6:TbD P q ps0 ps3 cs3 (X.pn++(pins++pinsAt fp s5.heap)):=by
   refine⟨T3.tb,T3.gr,fun r hr=> ?_,fun p hp r hr=> ?_⟩
   ·rw [←List.append_assoc] at hr
    rcases List.mem_append.mp hr with z | z
    ·exact T3.nP r z
    ·exact(nPb _ (dC z).1).symm
   ·rw [←List.append_assoc] at hr
    rcases List.mem_append.mp hr with z | z
    ·exact T3.dj p hp r z
    ·exact d3 _ (dC z).1 p hp
  refine wpAny_passesOwn hp (L2.thn (hb _ ps3 cs3 s6 σ6 H6 _ T6 I6 q6) fun f s7 q7=> ?_)
  obtain⟨ps7,cs7,T7,q7⟩:=q7
  have T7':TbD P q ps0 ps7 cs7 (X.pn++pins):=by
   refine⟨T7.tb,T7.gr,fun r hr=>T7.nP r ?_,fun p hp r hr=>T7.dj p hp r ?_⟩<;>(rw [←List.append_assoc];exact List.mem_append_left _ hr)
  have un: ∀ {σ7:St} {H7:Hp},Inv X (pnL P ps7 cs7 (pins++pinsAt fp s5.heap)) σ7 H7 s7→Inv X (pnL P ps7 cs7 pins) σ7 H7 s7:=fun {σ7 H7} I7=>by
   rw [←ep] at I7
   exact I7.unpinned
  have again: ∀ {σ7:St} {H7:Hp},Inv X (pnL P ps7 cs7 (pins++pinsAt fp s5.heap)) σ7 H7 s7→N σ7 H7→ ∃ m,m<n∧ ∃ i σ' H' ps' cs',TbD P q ps0 ps' cs' (X.pn++pins)∧(∀ b∈fp, ∀ p∈cs',p.1≠b)∧Inv X (pnL P ps' cs' pins) σ' H' s7∧tn i s7.heap∧(∀ b∈fp,H' b=none)∧W i m σ' H':=fun {σ7 H7} I7 n7=>by
   obtain⟨m',hm,w7⟩:=hN σ7 H7 n7
   have inn: ∀ b∈fp, ∀ o,s5.heap.get? b=some o→(b,o)∈X.pn++(pins++pinsAt fp s5.heap):=fun b hb o e=>List.mem_append_right _ (List.mem_append_right _ (aW hb e))
   have pin: ∀ b∈fp, ∀ o,s5.heap.get? b=some o→s7.heap.get? b=some o∧H7 b=none:=fun b hb o e=>by
    have:=I7.pin (b,o) (List.mem_append_right _ (.tail _ (List.mem_append_right _ (List.mem_append_right _ (aW hb e)))))
    exact⟨this.1,this.2.1⟩
   refine⟨m',hm,i+1,σ7,H7,ps7,cs7,T7',fun b hb p hp=> ?_,un I7,T.keep _ _ _ st5 fun b hb o e=>(pin b hb o e).1,fun b hb=> ?_,w7⟩
   ·obtain⟨o,e,d⟩:=T.obj _ _ st5 b hb
    exact T7.dj p hp (b,o) (inn b hb o e)
   ·obtain⟨o,e,d⟩:=T.obj _ _ st5 b hb
    exact(pin b hb o e).2
  cases f with
  | next=>obtain⟨σ7,H7,I7,n7⟩:=q7;exact again I7 n7
  | cont=>obtain⟨σ7,H7,I7,n7⟩:=q7;exact again I7 n7
  | brk=>obtain⟨σ7,H7,I7,q7⟩:=q7;exact⟨ps7,cs7,T7',σ7,H7,un I7,q7⟩
  | ret v=>obtain⟨x7,σ7,H7,I7,r7,q7⟩:=q7;exact⟨ps7,cs7,T7',x7,σ7,H7,un I7,r7,q7⟩
end
def EPL (X:Cx) (P:Addr) (q:Str) (ps0:Array Value) (pins:List (Addr×Obj)) (σ:St) (Q:VK) (u:Value) (s':Shared):Prop:=
 ∃ ps cs,TbD P q ps0 ps cs (X.pn++pins)∧EP X (pnL P ps cs pins) σ Q u s'
noncomputable def capOf:Option SK.Slot→Option D
 | some (.sh d)=>some d
 | _=>none
noncomputable def capD (cs:List Nat) (ρ:Rho):Option (List D):=mapO (fun i=>capOf ρ[i]?) cs
noncomputable def rTold (T:Fn) (cs:List Nat) (f:SK.F):SK.F:=fun ρ=>match capD cs ρ with
 | some ds=>toldR T (f (ds.map SK.Slot.sh))
 | none=> .bad
theorem jI {K:PySem.W.Frag} {ad:Ad} {G H:Hp} {ρ:Rho} {σ:St} (hS:SL K ad G H ρ σ): ∀ {cs:List Nat} {ds:List D},capD cs ρ=some ds→
  ∃ vs:List V,vs.length=cs.length∧Reps K ad G ds vs∧ ∀ (i j:Nat) (v:V),cs[i]? =some j→vs[i]? =some v→σ[j]? =some (some v)
 | [],ds,h=>by
  cases h
  exact⟨[],rfl,Reps.nil,fun i j v h=>by cases h⟩
 | c::cs,ds,h=>by
  unfold capD mapO at h
  cases e:ρ[c]? with
  | none=>rw [e] at h;cases h
  | some sl=>
   rw [e] at h
   cases sl with
   | sh d=>
    obtain⟨r,h1,h2⟩:=zMd h
    subst h2
    obtain⟨vs,l,rp,hv⟩:=jI hS (cs:=cs) (ds:=r) h1
    obtain⟨v,e1,rv⟩:=hS.sh e
    refine⟨v::vs,by simp [l],Reps.cons rv rp,fun i j w hi hw=> ?_⟩
    cases i with
    | zero=>cases hi;cases hw;exact e1
    | succ i=>exact hv i j w hi hw
   | no=>cases h
   | ow xs=>cases h
   | dc xs=>cases h
   | sd xs=>cases h
def ToldOk (P:Program) (w:World) (K:PySem.W.Frag) (mg:Str→Option Value) (base:Heap) (ad:Ad) (k:Nat) (f:Addr) (fd:FuncData) (dn:Str) (F:Fn):Prop:=
 ∀ (A:Around) (outer:List PySem.Env) (s:Shared) (G H:Hp) (a:Addr) (r:R) (Q:VK) (E:XK) (args:Args),Room (k+1) A→Env0 P w K mg base A outer s H→BindsTo s fd args [(dn, .ref a)]→PySem.W.FnAt a s.heap→Deed P w K mg base ad k s G H a r→Same G H→
  RK K ad G H (toldR F r) Q (fun _ _=>False)→codeAny (model P w) A (.call (.ref f) args) (CR (CXe P w) outer P w H s Q E) s
section
variable {X:Cx} {P c ft:Addr} {q tn dn:Str} {ps0 ps:Array Value} {cs pins:List (Addr×Obj)} {σ:St} {G H:Hp} {ρ:Rho} {s:Shared} {params:Arguments} {body:Expr} {sc:Scope} {lp p cp:Pos} {ad:Ad} {k:Nat} {F:Fn} {f:SK.F} {cap:List Nat} {fd:FuncData} {Q:VK}
theorem tY (hg:L2.Gl X tn) (hm:X.mg tn=some (.ref ft)) (hdb:(tn==("__debug__":Str))=false) (hk:PySem.W.keepIn X.K (.ref ft)=true) (hT:ToldOk X.prog X.w X.K X.mg X.base ad k.succ ft fd dn F) (hr:Room (k+2) X.A)
  (hb: ∀ (s:Shared) (u:Value),X.K.In s.heap→BindsTo s fd ⟨[u],[]⟩ [(dn,u)])
  (hx:P∈X.ex) (hpar:defaultsOf params X.env=([],[])) (hq:X.env.qual++"<lambda>"=q) (hfree: ∀ x,(x,NameKind.free)∈sc.names→X.env.kindOf x=some .cell∨X.env.kindOf x=some .free)
  (hcode:X.env.code= .ref c) (hC:PySem.W.CodeHd s.heap c P) (hB:s.heap.BuiltinsAt X.mg P)
  (S:LamSc (frees sc) sc) (hbind: ∀ cl pm cd ct,bindArgs (PySem.W.kla_fn "<lambda>" q params body sc cl pm cd ct) ⟨[],[]⟩=pure [])
  (hcl:cap.length=(frees sc).length) (hcap: ∀ (i:Nat) (x:Str),(frees sc)[i]? =some x→ ∃ j,cap[i]? =some j∧X.N[j]? =some x∧(X.env.kindOf x=some .cell∨X.env.kindOf x=some .free))
  (hbody: ∀ a cd cl A outer s H E,Room k (A.deeper (envL q sc s.heap.objs.size a cd cl))→ME (cxL (CXe X.prog X.w) X.prog X.w X.K X.mg X.base (frees sc) q sc a cd cl A outer s H E) ad body f)
  (T:TbD P q ps0 ps cs (X.pn++pins)) (I:Inv X (pnL P ps cs pins) σ H s) (hG:Same G H) (hS:SL X.K ad G H ρ σ) (hrk:RK X.K ad G H (rTold F cap f ρ) Q fun _ _=>False):
  wpAny (model X.prog X.w) X.A (eval (.Call (.Name tn p) [.Lambda params body sc lp] [] cp) X.env) (EPL X P q ps0 pins σ Q) X.xe s:=by
 refine wpAny_Call_Name_kw (bX I hg hm ?_ hdb)
 refine PySem.W.callWith_K (h₀:=X.base) I.ok.mod.kin hk ?_ rfl rfl
 refine Calls.spliced_cons (m7 I T.tb hx (fun p hp=>T.nP p hp) hpar hq hfree hcode hC hB fun a ps' cs' cv ctv s' I' T' more new hsz hobj hrec ext=>Calls.spliced_nil ⟨I'.kIn, ?_⟩)
 unfold rTold at hrk
 cases hcd:capD cap ρ with
 | none=>rw [hcd] at hrk;exact hrk.elim
 | some ds=>
  rw [hcd] at hrk
  have hrk':RK X.K ad G H (toldR F (f (ds.map SK.Slot.sh))) Q fun _ _=>False:=hrk
  obtain⟨vs,hvl,rvs,hvv⟩:=jI hS hcd
  have TD:TbD P q ps0 ps' cs' (X.pn++pins):=by
   refine⟨T', ?_,T.nP,fun p hp r hr=> ?_⟩
   ·obtain⟨m1,e1⟩:=T.gr
    obtain⟨m2,e2⟩:=more
    exact⟨m1++m2,by rw [e2,e1,Array.append_assoc]⟩
   ·rcases new p hp with z | z
    ·exact T.dj p z r hr
    ·have hin:r∈X.pn++pnL P ps cs pins:=by
      rcases List.mem_append.mp hr with y | y
      ·exact List.mem_append_left _ y
      ·exact List.mem_append_right _ (.tail _ (List.mem_append_right _ y))
     exact Nat.ne_of_gt (Nat.lt_of_lt_of_le (Heap.lt_size (I.pin r hin).1) z)
  have hcl2: ∀ x d,(clOf X.env.cells sc.names []).lookup x=some d→(x,NameKind.free)∈sc.names∧X.env.cells.lookup x=some d:=fun x d e=>by
   rcases cS e with ⟨k,h1,h2,h3⟩ | h
   ·subst h2
    refine⟨h1, ?_⟩
    obtain⟨c',hc'⟩:=I.ok.has x (hfree x h1)
    rw [hc'] at h3
    rw [h3]
    exact hc'
   ·cases h
  have hhas: ∀ x,sc.names.lookup x=some .free→ ∃ d,(clOf X.env.cells sc.names []).lookup x=some d:=fun x e=>Option.isSome_iff_exists.mp (cT (cells:=X.env.cells) (acc:=[]) (PySem.mem_of_lookup e))
  have deed:Deed X.prog X.w X.K X.mg X.base ad k.succ s' G H a (f (ds.map SK.Slot.sh)):=by
   intro A outer s1 Q1 E1 hR e0 hkp hr1
   have Tx:DefX (cxL (CXe X.prog X.w) X.prog X.w X.K X.mg X.base (frees sc) q sc a cv (clOf X.env.cells sc.names []) A outer s1 H E1) E1:=⟨rfl,rfl,rfl,fun e s' h=>h⟩
   refine tR (vs:=vs) S (hkp _ _ hobj) (hrec.keeps hkp) (hbind _ _ _ _) hR e0 (fun x y d h1 h2=>I.ok.inj x y d (hcl2 x d h1).2 (hcl2 y d h2).2) hhas (fun x d h=> ?_) (by rw [hvl,hcl]) (fun i x v h1 h2 h3=> ?_) ⟨_,hbody a cv _ A outer s1 H E1 (hR.deeper _),G,ds.map SK.Slot.sh,_,hG, ?_,qF Tx,hr1⟩
   ·obtain⟨v,o,ho,hd⟩:=I'.cell x d (hcl2 x d h).2
    exact⟨⟨v,o,hkp _ _ ho,hd⟩,I'.freeC x d (hcl2 x d h).2⟩
   ·obtain⟨j,e1,e2,e3⟩:=hcap i x h1
    have e4:=hvv i j v e1 h2
    obtain⟨m,hn,hl⟩:=I'.loc
    obtain⟨u,ru,lu⟩:=hl j x v e2 e4 (by rcases e3 with z | z<;>first | exact .inr (.inl z) | exact .inr (.inr z))
    rcases lu with ⟨z,_⟩ | ⟨_,d,hd,o,ho,hcel⟩
    ·rcases e3 with y | y<;>(rw [z] at y;cases y)
    ·obtain⟨d',hd'⟩:=hhas x h3
     have:=(hcl2 x d' hd').2
     rw [hd] at this
     cases this
     exact⟨u,d,ru,hd',o,hkp _ _ ho,hcel⟩
   ·have:=(cY (X:=cxL (CXe X.prog X.w) X.prog X.w X.K X.mg X.base (frees sc) q sc a cv (clOf X.env.cells sc.names []) A outer s1 H E1) (ad:=ad) (n:=0) hG rvs).sl
    rw [show(List.replicate 0 SK.Slot.no)=[] from rfl,show(List.replicate 0 (none:Option V))=[] from rfl,List.append_nil,List.append_nil] at this
    exact this
  refine wpAny_call (codeAny_mono (hT X.A X.stack s' G H a _ Q (fun _ _ _=>False) ⟨[.ref a],[]⟩ hr I'.env0 (hb s' _ I'.kIn) ⟨_,_,_,_,hobj⟩ deed hG hrk') fun r s2 hq=> ?_)
  cases r with
  | error e=>obtain⟨_,_,_,_,_,_,_,_,_,_,_,_,_,_,z⟩:=hq;exact z.elim
  | ok fl=>
   cases fl with
   | ret u=>exact⟨ps',cs',TD,I'.after hq⟩
   | next=>exact False.elim hq
   | brk=>exact False.elim hq
   | cont=>exact False.elim hq
end
def LPE (X:Cx) (P:Addr) (q:Str) (ps0:Array Value) (e:Expr) (t:TE):Prop:=
 ∀ (pins:List (Addr×Obj)) (ps:Array Value) (cs:List (Addr×Obj)) (s:Shared) (σ:St) (H:Hp) (Q:VK),TbD P q ps0 ps cs (X.pn++pins)→Inv X (pnL P ps cs pins) σ H s→t σ H Q→
  wpAny (model X.prog X.w) X.A (eval e X.env) (EPL X P q ps0 pins σ Q) X.xe s
abbrev LME (X:Cx) (P:Addr) (q:Str) (ps0:Array Value) (ad:Ad) (e:Expr) (f:SK.F):Prop:=LPE X P q ps0 e (tE X ad f)
abbrev LMS (X:Cx) (P:Addr) (q:Str) (ps0:Array Value) (ad:Ad) (Z:(St→Nat→Hp→Prop)→Prop) (st:Stmt) (g:FS):Prop:=LPS X P q ps0 st (tS X ad Z g)
abbrev LMSs (X:Cx) (P:Addr) (q:Str) (ps0:Array Value) (ad:Ad) (Z:(St→Nat→Hp→Prop)→Prop) (st:List Stmt) (g:FS):Prop:=LPSs X P q ps0 st (tS X ad Z g)
section
variable {X:Cx} {P:Addr} {q:Str} {ps0 ps:Array Value} {cs pins:List (Addr×Obj)} {ad:Ad} {Z:(St→Nat→Hp→Prop)→Prop} {a e:Expr} {f:SK.F} {g h:FS} {st:Stmt} {sts:List Stmt} {pos pos':Pos} {σ:St} {G H:Hp} {ρ:Rho} {s:Shared} {Q:VK} {E:Nat→Hp→Prop}
theorem LPE.thn {k:D→R} (ha:LME X P q ps0 ad a f) (T:TbD P q ps0 ps cs (X.pn++pins)) (I:Inv X (pnL P ps cs pins) σ H s) (hG:Same G H) (hS:SL X.K ad G H ρ σ) (hx:XP X ad σ E) (hr:RK X.K ad G H ((f ρ).bind k) Q E):
  wpAny (model X.prog X.w) X.A (eval a X.env) (fun u s1=> ∃ ps1 cs1 v d G1 H1,TbD P q ps0 ps1 cs1 (X.pn++pins)∧Inv X (pnL P ps1 cs1 pins) σ H1 s1∧RelV v u∧Step G H G1 H1∧Rep X.K ad G1 d v∧RK X.K ad G1 H1 (k d) Q E) X.xe s:=by
 cases e:f ρ with
 | ok d=>
  rw [e] at hr
  refine L2.thn (ha pins ps cs s σ H (fun v H1=> ∃ G1,Step G H G1 H1∧Rep X.K ad G1 d v) T I ⟨G,ρ,E,hG,hS,hx,by rw [e];exact fun v G1 H1 st q=>⟨G1,st,q⟩⟩) fun u s1 ⟨ps1,cs1,T1,v,H1,I1,r1,G1,st,q⟩=> ?_
  exact⟨ps1,cs1,v,d,G1,H1,T1,I1,r1,st,q,RK.step hr st⟩
 | ow xs=>
  rw [e] at hr
  refine L2.thn (ha pins ps cs s σ H (fun v H1=> ∃ G1,Step G H G1 H1∧Rep X.K ad G1 (.lst xs) v) T I ⟨G,ρ,E,hG,hS,hx,by rw [e];exact fun p vs G1 H1 st n m e' q=>aO st n m e' q⟩) fun u s1 ⟨ps1,cs1,T1,v,H1,I1,r1,G1,st,q⟩=> ?_
  exact⟨ps1,cs1,v, .lst xs,G1,H1,T1,I1,r1,st,q,RK.step hr st⟩
 | ex c=>
  rw [e] at hr
  refine L2.thn (ha pins ps cs s σ H (fun v H1=>False) T I ⟨G,ρ,E,hG,hS,hx,by rw [e];exact hr⟩) fun u s1 ⟨ps1,cs1,T1,v,H1,I1,r1,q⟩=>q.elim
 | bad=>
  rw [e] at hr
  exact False.elim hr
theorem pH (he:LME X P q ps0 ad e f) (hs:starEach [e] X.env=(false,eval e X.env)::starEach [] X.env):LME X P q ps0 ad (.List [e] pos) (rLst [f]):=by
 intro pins ps cs s σ H Q T I ⟨G,ρ,E,hG,hS,hx,hr⟩
 refine wpAny_List_spliced ?_
 rw [hs]
 have hr':RK X.K ad G H ((f ρ).bind fun d=> .ow [d]) Q E:=by
  have e0:rLst [f] ρ=(f ρ).bind fun d=> .ow [d]:=by
   unfold rLst rAll args
   cases f ρ<;>rfl
  rwa [e0] at hr
 refine Calls.spliced_cons (L2.thn (he.thn T I hG hS hx hr') fun u s1 ⟨ps1,cs1,v,d,G1,H1,T1,I1,r1,st,r2,k1⟩=>Calls.spliced_nil ⟨(by decide:1≤sizeLine), ?_⟩)
 have hf:H1 s1.heap.objs.size=none:=I1.hok.fresh (Nat.le_refl _)
 refine⟨ps1,cs1,T1, .ref s1.heap.objs.size,upd H1 s1.heap.objs.size (.lst [v]),I1.laid (t':=s1.toks) (fun b u e=>Heap.get?_push_of_some _ e) (Nat.le_refl _) ?_,rfl,RK.ow_new k1 st.gh (Reps.cons r2 Reps.nil) hf⟩
 exact⟨(by decide:1≤sizeLine),[u],0, .cons r1 .nil,Heap.get?_push_size _ rfl⟩
theorem tZ {i:Nat} {x:Str} (hN:X.N.Nodup) (hi:X.N[i]? =some x) (hx:Loc X.env.scope x) (he:LME X P q ps0 ad e f) (hs:swapsWith e (some (.Name x pos')) pos.line X.env=pure false) (hf:X.fn x=true∨X.env.scope.names.lookup x=some .local):
  LMS X P q ps0 ad Z (.Assign [.Name x pos'] e pos) (sOwn i f):=by
 intro pins ps cs s σ H D T I ⟨G₀,G,ρ,E,S,hx',hr⟩
 refine wpAny_Assign_Name (L2.thn (he pins ps cs s σ H _ T I (qA S hx' hr)) fun v s1 ⟨ps1,cs1,T1,y,H1,I1,r1,q1⟩=> ?_) hs
 exact a9 I1 hN hi hx r1 (fun s2 I2=>⟨ps1,cs1,T1,_,H1,I2,q1⟩) hf
theorem t0 {i:Nat} {x:Str} {p ap cp:Pos} (hN:X.N[i]? =some x) (hv:Vis X.env.scope x) (hd:(x==("__debug__":Str))=false) (hcd:(x==("__classdict__":Str))=false) (he:LME X P q ps0 ad e f) (hs:starEach [e] X.env=(false,eval e X.env)::starEach [] X.env)
  (hline:(ap.endLine==cp.line)=true):LMS X P q ps0 ad Z (.Expr (.Call (.Attribute (.Name x p) "append" ap) [e] [] cp) pos) (sApp i f):=by
 intro pins ps cs s σ H D' T I ⟨G₀,G,ρ,E,S,hx,hr⟩
 unfold sApp at hr
 cases hq:ρ[i]? with
 | none=>rw [hq] at hr;exact hr.elim
 | some sl=>
  rw [hq] at hr
  cases sl with
  | no=>exact hr.elim
  | sh d=>exact hr.elim
  | dc d=>exact hr.elim
  | sd d=>exact hr.elim
  | ow xs=>
   obtain⟨a,vs,h1,h2,h3,h4⟩:=S.sl.ow hq
   refine wpAny_Expr_any ?_ I.quiet rfl
   refine wpAny_Call_method_late rfl (bG hs) hline rfl (L2.thn (aS hN hv hd hcd _ s σ H (fun v H1=>v= .ref a∧H1=H) I ⟨.ref a,h1,rfl,rfl⟩) fun v s1 hz_=> ?_)
   obtain⟨y,H1,I1,r1,rfl,rfl⟩:=hz_
   obtain⟨t1,t2⟩:=pU I1 r1 (T:="list") (.inl ⟨rfl,vs,SqL.of h3⟩)
   refine⟨"list",_,PySem.F.plainAttrs_list,PySem.F.slot_list_append,PySem.F.type_list_append,t1,t2, ?_⟩
   rw [hs]
   refine Calls.callWith_builtin rfl (Calls.evalArgs_plain (Calls.spliced_cons (L2.thn (he pins ps cs s1 σ H1 (fun v H2=> ∃ d G1,Step G H1 G1 H2∧Rep X.K ad G1 d v∧OKo X ad G₀ (if xs.length<LIM then .nx (ρ.set i (.ow (xs++[d]))) else .rt .bad) D' E) T I1 (aT S hx hr fun v d G1 H2 st r k=>⟨d,G1,st,r,k⟩)) fun u s2 hz_=>Calls.spliced_nil ?_)))
   obtain⟨ps2,cs2,T2,w,H2,I2,r2,d,G1,st,r,k⟩:=hz_
   obtain⟨g1,h1'⟩:=aP st h2 h3
   by_cases hc:xs.length<LIM
   ·rw [if_pos hc] at k
    have r4:=h4.mono st.sg
    refine L2.thn (dF _ s2 σ H2 (.ref a) [w] v [u] (fun _ H3=>D'.nx σ H3) I2 r1 (.cons r2 .nil) ⟨a,vs,w,rfl,rfl,h1', ?_,k σ G1 _ ((S.step st).upd hq h1 g1 (r4.append (Reps.cons r Reps.nil)))⟩) fun _ s3 hz_=> ?_
    ·rw [h4.length]
     exact Nat.lt_of_lt_of_le hc (by decide)
    ·obtain⟨_,H3,I3,_,q3⟩:=hz_
     exact⟨ps2,cs2,T2,σ,H3,I3,q3⟩
   ·rw [if_neg hc] at k
    exact k.elim
end
section
variable {X:Cx} {P:Addr} {q:Str} {ps0 ps:Array Value} {cs pins:List (Addr×Obj)} {ad:Ad} {Z:(St→Nat→Hp→Prop)→Prop} {a e it tg:Expr} {f:SK.F} {g h:FS} {st:Stmt} {sts body:List Stmt} {pos pos':Pos}
theorem xD (a:MS X ad Z st g):LMS X P q ps0 ad Z st g:=xB a
theorem pI:LMSs X P q ps0 ad Z [] sPass:=tV g8
theorem nB (h1:LMS X P q ps0 ad Z st g) (h2:LMSs X P q ps0 ad Z sts h):LMSs X P q ps0 ad Z (st::sts) (sSeq g h):=by
 refine LPSs.imp (nA h1 h2) ?_
 rintro D' σ H ⟨G₀,G,ρ,E,S,hx,hr⟩
 refine⟨G₀,G,ρ,E,S,hx, ?_⟩
 unfold sSeq at hr
 cases e:g ρ with
 | nx ρ'=>rw [e] at hr;exact fun σ' G' H' S'=>⟨G₀,G',ρ',E,S',hx,hr⟩
 | bk ρ'=>rw [e] at hr;exact hr
 | ct ρ'=>rw [e] at hr;exact hr
 | ex c ρ'=>rw [e] at hr;exact hr
 | rt r=>
  rw [e] at hr
  cases r<;>exact hr
theorem xE {c:Expr} {a b:List Stmt} (hc:MT X ad c f) (ha:LMSs X P q ps0 ad Z a g) (hb:LMSs X P q ps0 ad Z b h):LMS X P q ps0 ad Z (.If c a b pos) (sIf f g h):=by
 refine LPS.imp (xC hc ha hb) ?_
 rintro D' σ H ⟨G₀,G,ρ,E,S,hx,hr⟩
 unfold sIf at hr
 cases e:f ρ with
 | ok d=>
  rw [e] at hr
  cases d<;>try exact hr.elim
  rename_i k
  refine⟨G,ρ,E σ,S.st.gh,S.sl,hx.1 σ, .inl ⟨k,e⟩, ?_⟩
  rw [e]
  intro v G1 H1 st r
  unfold Rep at r;subst r
  refine⟨k,rfl, ?_⟩
  cases k with
  | true=>exact iteT ⟨G₀,G1,ρ,E,S.step st,hx,hr⟩
  | false=>exact iteF ⟨G₀,G1,ρ,E,S.step st,hx,hr⟩
 | ow xs=>rw [e] at hr;exact hr.elim
 | ex k=>
  rw [e] at hr
  refine⟨G,ρ,E σ,S.st.gh,S.sl,hx.1 σ, .inr ⟨k,e⟩, ?_⟩
  rw [e]
  exact fun G1 H1 st=>hr σ G1 H1 (S.step st)
 | bad=>rw [e] at hr;exact hr.elim
theorem t5 {k:Nat} {is:List Nat} {xs:List Str} (hp:PassesOwn (model X.prog X.w) X.A X.env X.xe) (hc:X.calm=true) (hN:X.N.Nodup) (hi:MIG X ad tg it f) (ht:tgNames tg=some (xs,k)) (hn:NmsOk X xs is) (hb:LMSs X P q ps0 ad Z body g)
  (hs: ∀ x,foldedSetIterable it X.env x=pure x):LMS X P q ps0 ad Z (.For tg it body [] pos) (sFor is (k==0) f g):=by
 obtain⟨P',hk⟩:=sE hc hN ht hn
 refine LPS.imp (tW hp hc hi P' hb hs) ?_
 rintro D' σ H ⟨G₀,G,ρ,E,S,hx,hr⟩
 refine⟨G,ρ,E σ,S.st.gh,S.sl,hx.1 σ, ?_⟩
 unfold sFor outR at hr
 cases e:f ρ with
 | ok d=>
  rw [e] at hr
  have hr':OKo X ad G₀ (match items d with | some ds=>forGo (tgtS is (k==0)) g ds ρ | none=> .rt .bad) D' E:=hr
  cases e2:items d with
  | none=>rw [e2] at hr';exact hr'.elim
  | some ds=>
   rw [e2] at hr'
   exact⟨ds,e2,fun J G' H' st it=>cV hk (S.step st) hx it hr'⟩
 | ow xs=>
  rw [e] at hr
  exact fun J G' H' st it=>cV hk (S.step st) hx it hr
 | ex c=>rw [e] at hr;exact fun G1 H1 st=>hr σ G1 H1 (S.step st)
 | bad=>rw [e] at hr;exact hr
end
noncomputable def noPar (a:Arguments):Bool:=a.posonlyargs.isEmpty&&a.args.isEmpty&&a.vararg.isNone&&a.kwonlyargs.isEmpty&&a.kw_defaults.isEmpty&&a.kwarg.isNone&&a.defaults.isEmpty
theorem pJ {a:Arguments} (h:noPar a=true):a=⟨[],[],none,[],[],none,[]⟩:=by
 obtain⟨a1,a2,a3,a4,a5,a6,a7⟩:=a
 unfold noPar at h
 simp only [Bool.and_eq_true,List.isEmpty_iff,Option.isNone_iff_eq_none] at h
 obtain⟨⟨⟨⟨⟨⟨h1,h2⟩,h3⟩,h4⟩,h5⟩,h6⟩,h7⟩:=h
 subst h1 h2 h3 h4 h5 h6 h7
 rfl
noncomputable def lamOk (sc:Scope):Bool:=sc.kind== .function&& !sc.isCoroutine&& !sc.isGenerator&&sc.names.all (fun p=>p.2 != .cell&&p.2 != .local)&&decide (frees sc).Nodup&&(frees sc).all (fun x=> !(x==("__debug__":Str))&& !(x==("__classdict__":Str)))
theorem gF {sc:Scope} (h:lamOk sc=true):LamSc (frees sc) sc∧(frees sc).Nodup∧ ∀ x∈frees sc,(x==("__debug__":Str))=false∧(x==("__classdict__":Str))=false:=by
 unfold lamOk at h
 simp only [Bool.and_eq_true] at h
 obtain⟨⟨⟨⟨⟨h1,h2⟩,h3⟩,h4⟩,h5⟩,h6⟩:=h
 have all: ∀ p∈sc.names,p.2≠ .cell∧p.2≠ .local:=fun p hp=>by
  have:=zAd h4 p hp
  simpa using this
 refine⟨⟨by simpa using h1,by simpa using h2,by simpa using h3,fun x hx=>(all x hx).1,fun x z=>(all _ (PySem.mem_of_lookup z)).2 rfl⟩,of_decide_eq_true h5,fun x hx=> ?_⟩
 have:=zAd h6 x hx
 simpa using this
section
variable {P:Program} {w:World} {K:Frag} {mg:Str→Option Value} {base:Heap} {ad:Ad} {k:Nat} {tab:List (Str×SK.Gl)} {fns:List (Nat×Fn)} {sc:Scope} {q:Str} {a:Addr} {cd:Value} {cl:List (Str×Addr)} {A:Around} {outer:List PySem.Env} {s:Shared} {H:Hp} {E:XK}
theorem ctxL (B:ExcK K ad) (TB:TabOk P w K mg base ad k tab) (FB:FnsOk P w K mg base ad k fns) (hs:lamOk sc=true) (hr:Room k (A.deeper (envL q sc s.heap.objs.size a cd cl))):
  CtxOk (cxL (CXe P w) P w K mg base (frees sc) q sc a cd cl A outer s H E) ad ⟨tab,fns,sc,frees sc,[]⟩:=by
 obtain⟨S,nd,nm⟩:=gF hs
 refine⟨rfl,nd,fun x i e=> ?_,fun x e=>e,fun x g e=> ?_,fun x i e=>(aX e).2,rfl, ?_,hr.hd,B.exc,B.kin,B.kve,fun j m F' e=> ?_⟩
 ·obtain⟨e1,e2⟩:=dQ e
  have m:=dP e1
  exact⟨bE e1,e2,(nm x m).1,(nm x m).2⟩
 ·obtain⟨a,b⟩:=TB x g e
  refine⟨a, ?_⟩
  cases g with
  | fn j m F'=>
   obtain⟨r',f',h1,h2,h3,h4,h5⟩:=b
   exact⟨r',f',⟨h2,h3,h4⟩,hr.mono h1,h5⟩
  | exc c=>exact b
  | verr=>exact b
  | val d=>exact b
  | py p=>exact b
 ·exact Nat.lt_of_le_of_lt (Nat.add_le_add_left (by decide:62≤64) _) hr.units
 ·obtain⟨r',h1,h2,h3⟩:=FB j m F' e
  exact⟨r',⟨h2,h3⟩,hr.mono h1⟩
end
structure LawX (X:Cx) (ad:Ad) (C:SK.Ctx) (tn:Str) (F:Fn) (P c:Addr) (q:Str) (k:Nat):Prop where
 O:StOk X ad C
 B:ExcK X.K ad
 TB:TabOk X.prog X.w X.K X.mg X.base ad k C.tab
 FB:FnsOk X.prog X.w X.K X.mg X.base ad k C.fns
 told: ∃ ft fd dn,X.mg tn=some (.ref ft)∧PySem.W.keepIn X.K (.ref ft)=true∧ToldOk X.prog X.w X.K X.mg X.base ad (k+1) ft fd dn F∧ ∀ (s:Shared) (u:Value),X.K.In s.heap→BindsTo s fd ⟨[u],[]⟩ [(dn,u)]
 tdb:(tn==("__debug__":Str))=false
 room:Room (k+2) X.A
 ex:P∈X.ex
 ql:X.env.qual++"<lambda>"=q
 code:X.env.code= .ref c
 hC:PySem.W.CodeHd X.base c P
 hB:X.base.BuiltinsAt X.mg P
 pass:PassesOwn (model X.prog X.w) X.A X.env X.xe
noncomputable def vLam:Expr→Option (Arguments×Expr×Scope)
 | .Lambda ps body sc _=>some (ps,body,sc)
 | _=>none
theorem t6 {e:Expr} {ps:Arguments} {body:Expr} {sc:Scope} (h:vLam e=some (ps,body,sc)): ∃ p,e= .Lambda ps body sc p:=by
 cases e<;>first | (cases h;exact⟨_,rfl⟩) | (cases h;done)
noncomputable def rdTold (tn:Str) (F:Fn) (C:SK.Ctx):Expr→Option SK.F
 | .Call (.Name x _) [l] [] _=>if x=tn∧C.sc.names.lookup x=some .globalImplicit then(vLam l).bind fun(ps,body,sc)=>if noPar ps&&lamOk sc then(mapO (fun x=>capLoc C x) (frees sc)).bind fun cap=>(denE 50 ⟨C.tab,C.fns,sc,frees sc,[]⟩ body).map fun f=>rTold F cap f else none else none
 | _=>none
theorem nC {α β:Type} {f:α→Option β}: ∀ {l:List α} {r:List β},mapO f l=some r→ ∀ (i:Nat) (a:α),l[i]? =some a→ ∃ b,r[i]? =some b∧f a=some b
 | [],_,_,i,a,h=>by cases h
 | x::l,r,h,i,a,ha=>by
  unfold mapO at h
  cases e:f x with
  | none=>rw [e] at h;cases h
  | some y=>
   rw [e] at h
   obtain⟨r',h1,h2⟩:=zMd h
   subst h2
   cases i with
   | zero=>cases ha;exact⟨y,rfl,e⟩
   | succ i=>exact nC h1 i a ha
theorem nD {K:PySem.W.Frag} {ad:Ad} {G H:Hp} {F:Fn} {cap:List Nat} {f:SK.F} {ρ:Rho} {Q:VK} {E:Nat→Hp→Prop} (h:RK K ad G H (rTold F cap f ρ) Q E):RK K ad G H (rTold F cap f ρ) Q fun _ _=>False:=by
 have key: ∀ r:R,(∀ c,r≠ .ex c)→RK K ad G H r Q E→RK K ad G H r Q fun _ _=>False:=fun r hr h=>by
  cases r with
  | ok d=>exact h
  | ow xs=>exact h
  | ex c=>exact absurd rfl (hr c)
  | bad=>exact h
 refine key _ (fun c z=> ?_) h
 unfold rTold at z
 cases e:capD cap ρ with
 | none=>rw [e] at z;cases z
 | some ds=>
  rw [e] at z
  have z':toldR F (f (ds.map SK.Slot.sh))= .ex c:=z
  unfold toldR at z'
  cases e2:f (ds.map SK.Slot.sh) with
  | ok d=>rw [e2] at z';cases z'
  | ow xs=>rw [e2] at z';cases z'
  | bad=>rw [e2] at z';cases z'
  | ex c2=>
   rw [e2] at z'
   simp only at z'
   split at z'<;>cases z'
section
variable {X:Cx} {ad:Ad} {C:SK.Ctx} {tn q:Str} {F:Fn} {P c:Addr} {k:Nat} {ps0:Array Value} {e:Expr} {f:SK.F}
theorem jJ (L:LawX X ad C tn F P c q k) (h:rdTold tn F C e=some f):LME X P q ps0 ad e f∧ ∃ a b c d,e= .Call a b c d:=by
 unfold rdTold at h
 split at h
 ·rename_i x p l cp
  split at h
  ·rename_i hx
   obtain⟨rfl,hgl⟩:=hx
   have hx:=zBd h
   clear h
   obtain⟨⟨ps,body,sc⟩,h0,h⟩:=hx
   obtain⟨lp,rfl⟩:=t6 h0
   simp only at h
   split at h
   ·rename_i hp
    rw [Bool.and_eq_true] at hp
    obtain⟨hp1,hp2⟩:=hp
    cases pJ hp1
    have hx:=zBd h
    clear h
    obtain⟨cap,hcap,h⟩:=hx
    obtain⟨fb,hfb,rfl⟩:=zMd h
    refine⟨?_,_,_,_,_,rfl⟩
    intro pins ps cs s σ H Q T I ⟨G,ρ,E,hG,hS,hx,hr⟩
    obtain⟨ft,fd,dn,t1,t2,t3,t4⟩:=L.told
    have hC:PySem.W.CodeHd s.heap c P:=by
     obtain⟨o,vs,file,tf,flags,tg,inF,text,tt,e1,r⟩:=L.hC
     exact⟨o,vs,file,tf,flags,tg,inF,text,tt,(I.bs _ _ e1).1,r⟩
    have hB:s.heap.BuiltinsAt X.mg P:=by
     obtain⟨bm,o,b1,b2,b3,b4,b5,r⟩:=L.hB
     exact⟨bm,o,b1,b2,b3,b4,(I.bs _ _ b5).1,r⟩
    refine tY (k:=k) (F:=F) (f:=fb) (cap:=cap) (dn:=dn) (fd:=fd) (ad:=ad) (L.O.cx.gk _ hgl) t1 L.tdb t2 t3 L.room t4 L.ex rfl L.ql (fun x hx=> ?_) L.code hC hB (gF hp2).1 (fun _ _ _ _=>rfl) (bW hcap) (fun i x hi=> ?_) (fun a cd cl A outer s H E hr=> ?_) T I hG hS (nD hr)
    ·obtain⟨j,e1⟩:=eR hcap x (eS hx)
     exact L.O.cx.cap x j e1
    ·obtain⟨j,e1,e2⟩:=nC hcap i x hi
     refine⟨j,e1, ?_,L.O.cx.cap x j e2⟩
     rw [L.O.cx.N]
     exact bE (aX e2).1
    ·exact((dY (ad:=ad) 50).1 _ _ body fb (ctxL L.B L.TB L.FB hp2 hr) hfb).1
   ·cases h
  ·cases h
 ·cases h
end
noncomputable def asgT:Stmt→Option (Str×Expr)
 | .Assign [.Name x _] (.List [e] _) _=>some (x,e)
 | _=>none
noncomputable def appT:Stmt→Option (Str×Expr)
 | .Expr (.Call (.Attribute (.Name x _) m ap) [e] [] cp) _=>if m="append"∧(ap.endLine==cp.line)=true then some (x,e) else none
 | _=>none
theorem t7 {st:Stmt} {x:Str} {e:Expr} (h:asgT st=some (x,e)): ∃ p1 p2 p3,st= .Assign [.Name x p1] (.List [e] p2) p3:=by
 unfold asgT at h
 split at h
 ·cases h;exact⟨_,_,_,rfl⟩
 ·cases h
theorem t8 {st:Stmt} {x:Str} {e:Expr} (h:appT st=some (x,e)): ∃ p1 ap cp p3,st= .Expr (.Call (.Attribute (.Name x p1) "append" ap) [e] [] cp) p3∧(ap.endLine==cp.line)=true:=by
 unfold appT at h
 split at h
 ·split at h
  ·rename_i hc
   obtain⟨rfl,hl⟩:=hc
   cases h
   exact⟨_,_,_,_,rfl,hl⟩
  ·cases h
 ·cases h
noncomputable def tdS (tn:Str) (F:Fn) (C:SK.Ctx) (st:Stmt):Option FS:=match asgT st with
 | some (x,e)=>(rdTold tn F C e).bind fun f=>(loc C x).map fun i=>sOwn i (rLst [f])
 | none=>match appT st with
  | some (x,e)=>(rdTold tn F C e).bind fun f=>(loc C x).map fun i=>sApp i f
  | none=>none
mutual
noncomputable def lS:Nat→Str→Fn→SK.Ctx→Stmt→Option FS
 | 0,_,_,_,_=>none
 | n+1,tn,F,C,st=>match tdS tn F C st with
  | some g=>some g
  | none=>match st with
   | .If c a b _=>(denE 50 C c).bind fun f=>(lSs n tn F C a).bind fun g=>(lSs n tn F C b).map fun h=>sIf f g h
   | .For tg it b [] _=>(tgNames tg).bind fun(xs,k)=>(denI 50 C (k != 0) it).bind fun f=>(mapO (fun x=>loc C x) xs).bind fun is=>if(vName it).isNone then(lSs n tn F C b).map fun g=>sFor is (k==0) f g else none
   | st=>denS 50 true C st
noncomputable def lSs:Nat→Str→Fn→SK.Ctx→List Stmt→Option FS
 | 0,_,_,_,_=>none
 | n+1,tn,F,C,l=>match l with
  | []=>some sPass
  | st::r=>(lS n tn F C st).bind fun g=>(lSs n tn F C r).map fun h=>sSeq g h
end
section
variable {X:Cx} {ad:Ad} {C:SK.Ctx} {tn q:Str} {F:Fn} {P c:Addr} {k:Nat} {ps0:Array Value}
theorem yJ {Z:(St→Nat→Hp→Prop)→Prop} (L:LawX X ad C tn F P c q k) {st:Stmt} {g:FS} (h:tdS tn F C st=some g):LMS X P q ps0 ad Z st g:=by
 unfold tdS at h
 split at h
 ·rename_i x e he
  obtain⟨p1,p2,p3,rfl⟩:=t7 he
  obtain⟨f,h1,h⟩:=zBd h
  obtain⟨i,h2,rfl⟩:=zMd h
  obtain⟨me,a',b',c',d',rfl⟩:=jJ (ps0:=ps0) L h1
  have nm:=L.O.nm h2
  exact tZ L.O.cx.nd nm.1 nm.2.1 (pH me rfl) rfl nm.2.2
 ·split at h
  ·rename_i x e he
   obtain⟨p1,ap,cp,p3,rfl,hl⟩:=t8 he
   obtain⟨f,h1,h⟩:=zBd h
   obtain⟨i,h2,rfl⟩:=zMd h
   obtain⟨me,a',b',c',d',rfl⟩:=jJ (ps0:=ps0) L h1
   obtain⟨v1,v2,v3,v4⟩:=L.O.cx.vis x i h2
   exact t0 v1 v2 v3 v4 me rfl hl
  ·cases h
theorem xF {E₀:XK} (L:LawX X ad C tn F P c q k): ∀ n:Nat,(∀ st g,lS n tn F C st=some g→LMS X P q ps0 ad (Zt ad E₀ true) st g)∧ ∀ l g,lSs n tn F C l=some g→LMSs X P q ps0 ad (Zt ad E₀ true) l g
 | 0=>⟨(fun _ _ h=>by cases h),(fun _ _ h=>by cases h)⟩
 | n+1=>by
  obtain⟨hS,hSs⟩:=xF (E₀:=E₀) L n
  obtain⟨kE,kL,kI⟩:=dY (ad:=ad) 50
  refine⟨fun st g h=> ?_,fun l g h=> ?_⟩
  ·unfold lS at h
   split at h
   ·rename_i g' hg
    cases h
    exact yJ L hg
   ·split at h
    ·obtain⟨f,h1,h⟩:=zBd h
     obtain⟨ga,h2,h⟩:=zBd h
     obtain⟨gb,h3,rfl⟩:=zMd h
     exact xE (kE X C _ f L.O.cx h1).2.1 (hSs _ ga h2) (hSs _ gb h3)
    ·rename_i tg it b pos _
     have hx:=zBd h
     clear h
     obtain⟨⟨xs,m⟩,h1,h⟩:=hx
     obtain⟨f,h2,h⟩:=zBd h
     obtain⟨is,h3,h⟩:=zBd h
     split at h
     ·rename_i hv
      obtain⟨gb,h4,rfl⟩:=zMd h
      have hn: ∀ x p,it≠ .Name x p:=o8 (Option.isNone_iff_eq_none.mp hv)
      have ns: ∀ a b c,it≠ .Set a b c:=fun a b c z=>by subst z;exact dX h2
      exact t5 L.pass L.O.cx.calm L.O.cx.nd ((kI X C tg _ _ f L.O.cx (mV h1).2 h2).2 hn) h1 (L.O.nms h3) (hSs _ gb h4) (noSet ns)
     ·cases h
    ·exact xD ((gE (ad:=ad) (E₀:=E₀) 50).1 X C true _ g L.O (fun z=>nomatch z) h)
  ·unfold lSs at h
   split at h
   ·cases h
    exact pI
   ·obtain⟨ga,h1,h⟩:=zBd h
    obtain⟨gb,h2,rfl⟩:=zMd h
    exact nB (hS _ ga h1) (hSs _ gb h2)
end
noncomputable def cxP (P0:Addr) (X:Cx):Cx:={ X with ex:=[P0] }
theorem yK {fs ex:List Addr} {H H':Hp} {h h':Heap} (u:Un fs [] H H' h h'):Un fs ex H H' h h':=
 ⟨fun b o e n f _=>u.keep b o e n f (by simp),fun b o e n f _=>u.slot b o e n f (by simp),fun b o e n _=>u.free b o e n (by simp),fun b o e _=>u.there b o e (by simp),u.tups,u.frzs,u.tbls⟩
section
variable {X:Cx} {P0:Addr} {σ:St} {H:Hp} {s:Shared}
theorem yL (I:Inv X [] σ H s) (hex:X.ex=[]) (hP:P0<X.s₀.heap.objs.size) (hb:X.base.get? P0=none) (hfs:P0∉X.fs) (hcell: ∀ x c,X.env.cells.lookup x=some c→X.s₀.heap.objs.size≤c):Inv (cxP P0 X) [] σ H s:=by
 refine⟨⟨I.ok.mod,I.ok.kind,I.ok.glob,I.ok.blt,I.ok.above,I.ok.inj,I.ok.has,I.ok.cab,I.ok.hd,I.ok.frames,I.ok.stk,fun b hb'=> ?_,I.ok.bs,I.ok.bsz,fun b o e hb'=> ?_,fun b hb'=> ?_,I.ok.funs,I.ok.frf⟩,I.os,I.bare, ?_,I.loc,I.cell,I.free,I.freeC,I.pin,I.hok,I.len⟩
 ·have e:b=P0:=List.mem_singleton.mp hb'
  subst e
  exact⟨Nat.ne_of_lt (Nat.lt_of_lt_of_le hP I.ok.above),fun x c h z=>absurd (Nat.lt_of_lt_of_le hP (hcell x c h)) (by rw [z];exact Nat.lt_irrefl _)⟩
 ·have e':b=P0:=List.mem_singleton.mp hb'
  subst e'
  have e2:X.base.get? b=some o:=e
  rw [hb] at e2
  cases e2
 ·have e:b=P0:=List.mem_singleton.mp hb'
  subst e
  exact hfs
 ·have u:=I.base
  rw [hex] at u
  exact yK u
theorem xG {q:Str}:Tb P0 q #[] []:=⟨trivial,(fun pos cv h=>by cases h),(fun p hp=>by cases hp)⟩
theorem pK {ad:Ad} {C:SK.Ctx} {tn q:Str} {F:Fn} {c:Addr} {k n:Nat} {b:List Stmt} {g:FS} {ds:List D} {vs:List V} {m:Nat} (L:LawX (cxP P0 X) ad C tn F P0 c q k) (hg:lSs n tn F C b=some g) (I:Inv (cxP P0 X) [] (vs.map some++List.replicate m none) H s) (hH:X.H₀=H) (hpn:X.pn=[])
  (ht:s.heap.get? P0=some (PySem.W.tabObj #[])) (hn:H P0=none) (hfs:P0∉X.fs) {G:Hp} (hG:Same G H) (r:Reps X.K ad G ds vs) (hm:g (ds.map SK.Slot.sh++List.replicate m .no)= .rt (.ok (.bl true))):
  wpAny (model X.prog X.w) X.A (execs b X.env) (fun f s'=>f= .ret (.bool true)∧ ∃ σ' H' ps,Inv (cxP P0 X) [] σ' H' s'∧s'.heap.get? P0=some (PySem.W.tabObj ps)) X.xe s:=by
 have I1:Inv (cxP P0 X) (pnL P0 #[] [] []) (vs.map some++List.replicate m none) H s:=I.pins_of fun p hp=>by
  have e:p=(P0,PySem.W.tabObj #[]):=List.mem_singleton.mp hp
  subst e
  exact⟨ht,hn,(I.ok.exf P0 (.head _)).1,hfs,fun v z=>nomatch z⟩
 have TD:TbD P0 q #[] #[] [] ((cxP P0 X).pn++[]):=by
  refine⟨xG,⟨#[],by simp⟩,fun r hr=> ?_,fun p hp=>by cases hp⟩
  have e:r∈X.pn++[]:=hr
  rw [hpn] at e
  cases e
 refine L2.thn ((xF (ps0:= #[]) (E₀:=fun _ _ _=>False) L n).2 b g hg [] #[] [] s _ H ⟨fun _ _=>False,fun v _=>v= .bl true,fun _ _=>False,fun _ _=>False⟩ TD I1 ⟨G,G,ds.map SK.Slot.sh++List.replicate m .no,fun _ _ _=>False, ?_,⟨fun σ pins H s e s' _ hc=> ?_,fun z=>nomatch z⟩, ?_⟩) fun f s' hs=> ?_
 ·have hG':Same G (cxP P0 X).H₀:=by
   show Same G X.H₀
   rw [hH]
   exact hG
  have:=cY (X:=cxP P0 X) (ad:=ad) (n:=m) hG' r
  have e:(cxP P0 X).H₀=H:=hH
  rwa [e] at this
 ·obtain⟨_,_,_,_,_,_,_,_,_,_,_,_,_,_,_,_,z⟩:=hc
  exact z.elim
 ·rw [hm]
  intro v G' H' st q
  unfold Rep at q
  exact q
 ·obtain⟨ps,cs,T,hs⟩:=hs
  cases f with
  | next=>obtain⟨_,_,_,z⟩:=hs;exact z.elim
  | brk=>obtain⟨_,_,_,z⟩:=hs;exact z.elim
  | cont=>obtain⟨_,_,_,z⟩:=hs;exact z.elim
  | ret u=>
   obtain⟨v,σ',H',J,rv,qv⟩:=hs
   have qv':v= .bl true:=qv
   subst qv'
   obtain rfl:u=Value.bool true:=rv
   refine⟨rfl,σ',H',ps,J.pins_of (fun p hp=>by cases hp),(J.pin (P0,PySem.W.tabObj ps) ?_).1⟩
   exact List.mem_append_right _ (.head _)
end
noncomputable def hidP (H:Hp) (P0:Addr):Hp:=fun b=>if b=P0 then some (.lst []) else H b
theorem gG {H:Hp} {P0 b:Addr} (h:hidP H P0 b=none):H b=none∧b≠P0:=by
 unfold hidP at h
 by_cases e:b=P0
 ·rw [if_pos e] at h;cases h
 ·rw [if_neg e] at h;exact⟨h,e⟩
theorem t9 {H:Hp} {P0 b:Addr} (h:H b=none) (n:b≠P0):hidP H P0 b=none:=by
 unfold hidP
 rw [if_neg n]
 exact h
section
variable {P:Program} {w:World} {K:Frag} {mg mb:Str→Option Value} {ad:Ad} {fa a P0 c:Addr} {s₁:Shared} {name qual x:Str} {params:Arguments} {body:List Stmt} {scope:Scope} {dV kV doc pm ct oc:Value} {an od:Option Addr} {osl:Array (Option Value)} {N:List Str}
  {H:Hp} {tn q:Str} {F:Fn} {k n m:Nat} {C:SK.Ctx} {g:FS} {d:D}
theorem jK (KX:K.In s₁.heap) (hns:s₁.heap.Ns mainGlobals mg) (hb:s₁.heap.Ns builtinsNs mb) (hbb: ∀ x:Str,x≠"__name__"→mb x=bootBuiltins x) (hlim:s₁.heap.NoLimit) (hg:s₁.gens= #[])
  (lk:K.lookup fa=some ⟨oc,od, .func (PySem.W.fnOf name qual params body scope dV kV doc pm an (.ref c) ct),osl⟩) (hcd:PySem.W.codeIn K (.ref c) qual=true) (S:FnScope N [x] scope)
  (hbind: ∀ (s:Shared) (u:Value),BindsTo s (PySem.W.fnOf name qual params body scope dV kV doc pm an (.ref c) ct) ⟨[u],[]⟩ [(x,u)]) (hr:Room (k+3) callerA)
  (hC:PySem.W.CodeHd s₁.heap c P0) (hB:s₁.heap.BuiltinsAt mg P0) (hT:s₁.heap.get? P0=some (PySem.W.tabObj #[])) (hKP:K.lookup P0=none)
  (hO:Only H) (hok:HOk P w H s₁.heap) (nd: ∀ b o es ep,s₁.heap.get? b=some o→o.data= .dict es ep→H b=none) (nK: ∀ b o,K.lookup b=some o→H b=none) (hn:H P0=none) (hcn:H c=none) (hbn: ∀ bm o,s₁.heap.get? bm=some o→o.data= .plain→H bm=none)
  (LX: ∀ base:Heap,K.In base→base.Ns mainGlobals mg→PySem.W.CodeHd base c P0→base.BuiltinsAt mg P0→LawX (cxP P0 (cxOf (CXe P w) P w K mg base N qual scope fa (.ref c) callerA [] s₁ H fun _ _ _=>False)) ad C tn F P0 c q k)
  (hread:lSs n tn F C body=some g) {G:Hp} (hG:Same G H) (rp:Reps K ad G [d] [.ref a]) (hN:N.length=m+1) (hm:g ([d].map SK.Slot.sh++List.replicate m .no)= .rt (.ok (.bl true))):
  codeAny (model P w) callerA (.call (.ref fa) ⟨[.ref a],[]⟩) (fun r s'=>r= .ok (.ret (.bool true))∧OldK s₁.heap s'.heap∧s'.os=s₁.os∧AllBare s'.gens) s₁:=by
 let base:=hidT s₁.heap (hidP H P0)
 have base_of: ∀ {b:Addr} {o:Obj},s₁.heap.get? b=some o→H b=none→b≠P0→base.get? b=some o:=fun e n z=>nL e (t9 n z)
 have notP: ∀ {b:Addr} {o:Obj},s₁.heap.get? b=some o→o≠PySem.W.tabObj #[]→b≠P0:=fun {b o} e z y=>by
  rw [y,hT] at e
  exact z (Option.some.inj e).symm
 have nsK: ∀ {b:Addr} {mm:Str→Option Value},s₁.heap.Ns b mm→base.Ns b mm:=fun {b mm} ⟨o,es,ep,e,dd,r⟩=>⟨o,es,ep,base_of e (nd _ _ _ _ e dd) (notP e fun z=>by rw [z] at dd;cases dd),dd,r⟩
 have hKb:K.In base:=fun b o e=>base_of (KX b o e) (nK b o e) fun z=>by rw [z,hKP] at e;cases e
 have hM:Mod K mg base:=⟨hKb,nsK hns,⟨mb,nsK hb,hbb⟩,let ⟨mc,h1,h2⟩:=hlim;⟨mc,nsK h1,h2⟩⟩
 have e0:Env0 P w K mg base callerA [] s₁ H:=⟨rfl,hM,fun b o e=>⟨(gI e).1,(gG (gI e).2).1⟩,Nat.le_of_eq (kC _ _),trivial,fun b hb=>absurd (show b∈([]:List Addr) from hb) (by simp),hok, .of_eq hg⟩
 have hCb:PySem.W.CodeHd base c P0:=by
  obtain⟨o,vs,file,tf,flags,tg,inF,text,tt,e1,r⟩:=hC
  exact⟨o,vs,file,tf,flags,tg,inF,text,tt,base_of e1 hcn (by obtain⟨_,_,_,_,_,_,_,_,z⟩:=r;exact z),r⟩
 have hBb:base.BuiltinsAt mg P0:=by
  obtain⟨bm,o,b1,b2,b3,b4,b5,b6,b7,b8⟩:=hB
  exact⟨bm,o,b1,b2,b3,b4,base_of b5 (hbn bm o b5 b8) b4,b6,b7,b8⟩
 have L:=LX base hKb (nsK hns) hCb hBb
 let X:=cxOf (CXe P w) P w K mg base N qual scope fa (.ref c) callerA [] s₁ H fun _ _ _=>False
 have hkind: ∀ y∈[(x,Value.ref a)],scope.names.lookup y.1=some .local∨(scope.names.lookup y.1=some .cell∧((cellsFrom (s₁.heap.objs.size+1) scope.names []).lookup y.1).isSome=true):=fun y hy=>by
  rw [List.mem_singleton.mp hy]
  rcases S.par x (.head _) with z | z
  ·exact .inl z
  ·exact .inr ⟨z,PySem.W.cellsFrom_some _ _ _ (.inl z)⟩
 refine codeAny_call_function hr.depth (KX _ _ lk) rfl S.co S.gen rfl (PySem.W.codeRec_of KX hcd) (hbind _ _ _ _ _ _ ?_)
 refine wpAny_newFunctionEnv_cells S.kind hkind fun env he s1 y=> ?_
 subst he
 refine⟨hlim.keeps y.toInCall.keep,codeAny_func ?_⟩
 have I0:Inv X [] (start N [.ref a]) H s1:=bO (vs:=[.ref a]) (us:=[.ref a]) (ps:=[x]) S hr.hd e0 rfl (.cons rfl .nil) y
 have hPlt:P0<s₁.heap.objs.size:=Heap.lt_size hT
 have hbP:base.get? P0=none:=by
  cases e:base.get? P0 with
  | none=>rfl
  | some o=>exact absurd rfl (gG (gI e).2).2
 have fs0: ∀ b,b∉X.fs:=fun b z=>absurd (show b∈([]:List Addr) from z) (by simp)
 have I1:Inv (cxP P0 X) [] (start N [.ref a]) H s1:=yL I0 rfl hPlt hbP (fs0 P0) fun z d h=>Nat.le_of_lt (y.above z d (PySem.mem_of_lookup h))
 have est:start N [V.ref a]=[V.ref a].map some++List.replicate m none:=by
  unfold L2.start
  have e:N.length - [V.ref a].length=m:=by rw [hN];simp
  rw [e]
 rw [est] at I1
 have hT1:s1.heap.get? P0=some (PySem.W.tabObj #[]):=y.toInCall.keep _ _ hT
 refine wpAny_mono (pK (X:=X) L hread I1 rfl rfl hT1 hn (fs0 P0) hG rp hm) (fun fl s' hs=> ?_) fun e s' hs=> ?_
 ·obtain⟨rfl,σ',H',ps,J,hPs⟩:=hs
  refine⟨rfl,⟨fun b o e=> ?_,fun b o e=> ?_⟩,J.os,J.bare⟩
  ·by_cases hbP:b=P0
   ·subst hbP
    rw [hT] at e
    cases e
    obtain⟨co,vs,_,_,_,_,_,_,_,e1,e2,e3,e4,_⟩:=hC
    exact .inr (.inl ⟨⟨c,co,vs,e1,e2,e3,e4⟩,rfl, #[],ps,rfl,by rw [hPs];simp [PySem.W.tabObj]⟩)
   ·refine .inl ?_
    have nx:b∉(cxP P0 X).ex:=fun z=>hbP (List.mem_singleton.mp z)
    cases hh:H b with
    | none=>exact J.base.keep b o e hh (fs0 b) nx
    | some u=>
     rcases hO b with z | ⟨ob,xs,z⟩
     ·rw [hh] at z;cases z
     ·have z2:=J.base.frzs b ob _ z
      obtain⟨e1,_⟩:=hok b _ z
      obtain⟨e2,_⟩:=J.hok b _ z2
      rw [e] at e1;cases e1
      exact e2
  ·by_cases hbP:b=P0
   ·subst hbP
    exact⟨_,hPs⟩
   ·exact J.base.there b o e fun z=>hbP (List.mem_singleton.mp z)
 ·have no: ∀ (e:Value) (s'':Shared),CXe P w [] H s₁ (fun _ _ _=>False) e s''→False:=fun e s'' z=>by
   obtain⟨_,_,_,_,_,_,_,_,_,_,_,_,_,_,z⟩:=z
   exact z
  have hs':wpAny (model P w) (callerA.deeper (envOfC qual scope s₁.heap.objs.size fa (.ref c))) (leaving (envOfC qual scope s₁.heap.objs.size fa (.ref c)) e) (fun _ s''=>CXe P w [] H s₁ (fun _ _ _=>False) e s'') (fun e' s''=>CXe P w [] H s₁ (fun _ _ _=>False) e' s'') s':=hs
  exact wpAny_mono hs' (fun _ s'' z=>(no _ _ z).elim) fun e' s'' z=>(no _ _ z).elim
end
structure Td where
 dn:Str
 en:Str
 x:Str
 cx:Str
noncomputable def tdBody:List Stmt→Option Td
 | [.Try [.Return (some (.Call (.Name dn _) [] [] _)) _] [.ExceptHandler (some (.Name cx _)) (some en) [.Return (some (.Call (.Name x _) [.Name en' _] [] _)) _] _] [] [] _]=>if en=en' then some ⟨dn,en,x,cx⟩ else none
 | _=>none
theorem nE {b:List Stmt} {t:Td} (h:tdBody b=some t): ∃ cp xp ep ap hp' rq np dp rp tp,b=[cZ t.dn t.en t.x t.cx cp xp ep ap hp' rq np dp rp tp]:=by
 unfold tdBody at h
 split at h
 ·split at h
  ·rename_i he
   cases he
   cases h
   exact⟨_,_,_,_,_,_,_,_,_,_,rfl⟩
  ·cases h
 ·cases h
noncomputable def tdSc (t:Td) (sc:Scope):Bool:=scopeOk (namesOf sc) [t.dn] sc&&namesOf sc==[t.dn,t.en]&&sc.names.lookup t.dn==some .local&&sc.names.lookup t.en==some .local&&sc.names.lookup t.x==some .globalImplicit&&sc.names.lookup t.cx==some .globalImplicit&&
 !(t.x==("__debug__":Str))&& !(t.cx==("__debug__":Str))
section
variable {P:Program} {w:World} {K:Frag} {mg:Str→Option Value} {base:Heap} {ad:Ad} {k kf:Nat} {x0 qual q1:Str} {st:Stmt} {f fa:Addr} {fd fdx:FuncData} {t:Td} {F:Fn}
noncomputable def defBody:Stmt→List Stmt
 | .FunctionDef _ _ b _ _ _ _ _ _ _=>b
 | _=>[]
noncomputable def defSc:Stmt→Option Scope
 | .FunctionDef _ _ _ _ _ _ sc _ _ _=>some sc
 | _=>none
theorem uA (Fu:Fun K x0 qual st f fd) (hb:tdBody (defBody st)=some t) (hs:(defSc st).map (tdSc t)=some true) (hmx:mg t.x=some (.ref fa)) (hkx:PySem.W.keepIn K (.ref fa)=true)
  (hfx:FnOkQ P w K mg base (CXe P w) kf fa fdx [q1] (spOf K ad 1 F)) (hbx:Binds K fdx [q1] []) (hkf:kf≤k) (hmc:mg t.cx=some (.ref (ad.cls 0))) (B:ExcK K ad):ToldOk P w K mg base ad k f fd t.dn F:=by
 obtain⟨oc,od,kV,doc,pm,an,cdv,ct,osl,rfl,lk,hcd⟩:=Fu.ex
 cases st with
 | FunctionDef nm as b dl re tp sc ts bi pos=>
  obtain⟨cp,xp,ep,ap,hp',rq,np,dp,rp,tp',rfl⟩:=nE (show tdBody b=some t from hb)
  have hs':tdSc t sc=true:=Option.some.inj hs
  unfold tdSc at hs'
  simp only [Bool.and_eq_true,Bool.not_eq_true'] at hs'
  obtain⟨⟨⟨⟨⟨⟨⟨s1,s2⟩,s3⟩,s4⟩,s5⟩,s6⟩,s7⟩,s8⟩:=hs'
  have s2':namesOf sc=[t.dn,t.en]:=by simpa using s2
  obtain⟨S,nm'⟩:=a8 s1
  intro A outer s G H a r Q E args hr e0 hbd hfn hdeed hG hq
  have m1:t.dn∈namesOf sc:=by rw [s2'];simp
  have m2:t.en∈namesOf sc:=by rw [s2'];simp
  exact pG (N:=namesOf sc) lk hcd S (by rw [s2'];rfl) (by rw [s2'];rfl) (aL s3) (aL s4) (nm' _ m1).1 (nm' _ m1).2 (nm' _ m2).1 (nm' _ m2).2 hmx s7 hkx hfx hbx hkf hmc s8 B.exm (fun X e=>by show X.env.scope.names.lookup _=_;rw [e];exact aL s5) (fun X e=>by show X.env.scope.names.lookup _=_;rw [e];exact aL s6) hr e0 hbd hfn hdeed hG hq
 | _=>cases hs
end
section
variable {P:Program} {w:World} {K:Frag} {mg:Str→Option Value} {base:Heap} {ad:Ad} {k:Nat} {tab:List (Str×SK.Gl)} {fns:List (Nat×Fn)} {sc:Scope} {qual x tn:Str} {fa P0 c:Addr} {s₁:Shared} {H:Hp} {F:Fn} {bs:List Str}
theorem uB (B:ExcK K ad) (TB:TabOk P w K mg base ad k tab) (FB:FnsOk P w K mg base ad k fns) (hs:scopeOk (namesOf sc) [x] sc=true) (hr:Room (k+3) callerA)
  (told: ∃ ft fd dn,mg tn=some (.ref ft)∧PySem.W.keepIn K (.ref ft)=true∧ToldOk P w K mg base ad (k+1) ft fd dn F∧ ∀ (s:Shared) (u:Value),K.In s.heap→BindsTo s fd ⟨[u],[]⟩ [(dn,u)])
  (tdb:(tn==("__debug__":Str))=false) (hC:PySem.W.CodeHd base c P0) (hB:base.BuiltinsAt mg P0):
  LawX (cxP P0 (cxOf (CXe P w) P w K mg base (namesOf sc) qual sc fa (.ref c) callerA [] s₁ H fun _ _ _=>False)) ad ⟨tab,fns,sc,namesOf sc,bs⟩ tn F P0 c ((envOfC qual sc s₁.heap.objs.size fa (.ref c)).qual++"<lambda>") k:=by
 obtain⟨S,nm⟩:=a8 hs
 have hr2:Room (k+2) (callerA.deeper (envOfC qual sc s₁.heap.objs.size fa (.ref c))):=hr.deeper _
 let C:SK.Ctx:=⟨tab,fns,sc,namesOf sc,bs⟩
 have vis: ∀ x i,loc C x=some i→(namesOf sc)[i]? =some x∧Loc sc x∧x∈namesOf sc:=fun x i e=>by
  obtain⟨e1,e2⟩:=dQ e
  refine⟨bE e1, ?_,dP e1⟩
  rcases e2 with e2 | e2 | e2
  ·exact .inl e2
  ·exact .inr e2
  ·exact absurd rfl (S.nofree _ (aY e2))
 have O:StOk (cxP P0 (cxOf (CXe P w) P w K mg base (namesOf sc) qual sc fa (.ref c) callerA [] s₁ H fun _ _ _=>False)) ad C:=by
  refine⟨⟨rfl,S.nd,fun x i e=> ?_,fun x e=>e,fun x g e=> ?_,fun x i e=> ?_,rfl, ?_,hr2.hd,B.exc,B.kin,B.kve,fun j m F' e=> ?_⟩,fun _=>rfl,rfl,fun x i e=>(vis x i e).2.1,B.exm,B.exi⟩
  ·obtain⟨a,b,c⟩:=vis x i e
   exact⟨a,b.elim .inl fun z=> .inr (.inl z),(nm x c).1,(nm x c).2⟩
  ·obtain⟨a,b⟩:=TB x g e
   refine⟨a, ?_⟩
   cases g with
   | fn j m F'=>
    obtain⟨r',f',h1,h2,h3,h4,h5⟩:=b
    exact⟨r',f',⟨h2,h3,h4⟩,hr2.mono (by omega),h5⟩
   | exc c=>exact b
   | verr=>exact b
   | val d=>exact b
   | py p=>exact b
  ·obtain⟨e1,e2⟩:=aX e
   rcases e2 with e2 | e2
   ·exact .inl e2
   ·exact absurd rfl (S.nofree _ (aY e2))
  ·exact Nat.lt_of_le_of_lt (Nat.add_le_add_left (by decide:62≤64) _) hr2.units
  ·obtain⟨r',h1,h2,h3⟩:=FB j m F' e
   exact⟨r',⟨h2,h3⟩,hr2.mono (by omega)⟩
 exact⟨O,B,TB,FB,told,tdb,hr2, .head _,rfl,rfl,hC,hB,PassesOwn.leaving (Q₁:=fun e s''=>CXe P w [] H s₁ (fun _ _ _=>False) e s'')⟩
end
noncomputable def without (K:Frag) (P0:Addr):Frag:=K.filter fun p=>p.1 != P0
section
variable {P:Program} {w:World} {K:Frag} {mg mb:Str→Option Value} {ad:Ad} {fa a P0 c:Addr} {s₁:Shared} {name qual x:Str} {params:Arguments} {body:List Stmt} {scope:Scope} {dV kV doc pm ct oc:Value} {an od:Option Addr} {osl:Array (Option Value)} {N:List Str}
  {tn q:Str} {F:Fn} {k n m:Nat} {C:SK.Ctx} {g:FS} {d:D} {vs:List Value} {ns:List Int}
theorem nF (KX:K.In s₁.heap) (hns:s₁.heap.Ns mainGlobals mg) (hb:s₁.heap.Ns builtinsNs mb) (hbb: ∀ x:Str,x≠"__name__"→mb x=bootBuiltins x) (hlim:s₁.heap.NoLimit) (hg:s₁.gens= #[])
  (ha:s₁.heap.get? a=some { cls:= .type "list",data:= .seq vs.toArray }) (hi:IntsAre vs ns) (hl:ns.length≤sizeLine)
  (lk:K.lookup fa=some ⟨oc,od, .func (PySem.W.fnOf name qual params body scope dV kV doc pm an (.ref c) ct),osl⟩) (hcd:PySem.W.codeIn K (.ref c) qual=true) (S:FnScope N [x] scope)
  (hbind: ∀ (s:Shared) (u:Value),BindsTo s (PySem.W.fnOf name qual params body scope dV kV doc pm an (.ref c) ct) ⟨[u],[]⟩ [(x,u)]) (hr:Room (k+3) callerA)
  (hC:PySem.W.CodeHd s₁.heap c P0) (hB:s₁.heap.BuiltinsAt mg P0) (hT:s₁.heap.get? P0=some (PySem.W.tabObj #[])) (hKP:K.lookup P0=none)
  (LX: ∀ (base:Heap) (H:Hp),K.In base→base.Ns mainGlobals mg→PySem.W.CodeHd base c P0→base.BuiltinsAt mg P0→LawX (cxP P0 (cxOf (CXe P w) P w K mg base N qual scope fa (.ref c) callerA [] s₁ H fun _ _ _=>False)) ad C tn F P0 c q k)
  (hread:lSs n tn F C body=some g) (hrep: ∀ H:Hp,Only H→SqL K H a (ns.map V.int)→ ∃ G,Same G H∧Reps K ad G [d] [.ref a]) (hN:N.length=m+1) (hm:g ([d].map SK.Slot.sh++List.replicate m .no)= .rt (.ok (.bl true))):
  codeAny (model P w) callerA (.call (.ref fa) ⟨[.ref a],[]⟩) (fun r s'=>r= .ok (.ret (.bool true))∧OldK s₁.heap s'.heap∧s'.os=s₁.os∧AllBare s'.gens) s₁:=by
 have rv:=fJ hi
 have lenV:=hi.length
 cases hk:K.lookup a with
 | some o=>
  have e:=KX a o hk
  rw [ha] at e
  cases e
  obtain⟨G,hG,rp⟩:=hrep (fun _=>none) (fun _=> .inl rfl) (.inr ⟨_,vs.toArray,_,hk,rfl,rfl,rfl,by rw [List.size_toArray,lenV];exact hl,by simpa using rv⟩)
  exact jK (H:=fun _=>none) KX hns hb hbb hlim hg lk hcd S hbind hr hC hB hT hKP (fun _=> .inl rfl) (fun b u z=>by have z':(none:Option HO)=some u:=z;cases z') (fun _ _ _ _ _ _=>rfl) (fun _ _ _=>rfl) rfl rfl (fun _ _ _ _=>rfl) (fun base=>LX base _) hread hG rp hN hm
 | none=>
  have ne: ∀ {b:Addr} {o:Obj},s₁.heap.get? b=some o→o.data≠ .seq vs.toArray→b≠a:=fun {b o} e z y=>by
   rw [y,ha] at e
   cases e
   exact z rfl
  let H:Hp:=fun b=>if b=a then some (.frz { cls:= .type "list",data:= .seq vs.toArray } (.lst (ns.map V.int))) else none
  have hno: ∀ {b:Addr},b≠a→H b=none:=fun z=>if_neg z
  have hO:Only H:=fun b=>by
   by_cases hb:b=a
   ·exact .inr ⟨_,_,if_pos hb⟩
   ·exact .inl (if_neg hb)
  have hok:HOk P w H s₁.heap:=fun b u z=>by
   by_cases hb:b=a
   ·have z':=(if_pos hb).symm.trans z
    cases z'
    subst hb
    exact⟨ha,by rw [List.length_map];exact hl,vs,_,rv,ha⟩
   ·have z':=(if_neg hb).symm.trans z
    cases z'
  obtain⟨G,hG,rp⟩:=hrep H hO (.inl (.inr ⟨{ cls:= .type "list",data:= .seq vs.toArray },if_pos rfl⟩))
  refine jK (H:=H) KX hns hb hbb hlim hg lk hcd S hbind hr hC hB hT hKP hO hok (fun b o es ep e z=>hno (ne e (by rw [z];exact fun y=>nomatch y))) (fun b o e=>hno fun y=>by rw [y,hk] at e;cases e) (hno (ne hT fun y=>nomatch y)) ?_ (fun bm o e z=>hno (ne e (by rw [z];exact fun y=>nomatch y))) (fun base=>LX base _) hread hG rp hN hm
  obtain⟨o,ws,_,_,_,_,_,_,_,e1,_,e3,_⟩:=hC
  exact hno (ne e1 (by rw [e3];exact fun y=>nomatch y))
end
theorem xH {p:Program} {loose:List Str} {mean:ExcName→Option Value} {mg mb:Str→Option Value} {h:Heap} {P0:Addr} (T:Top p loose mean mg mb h) (hT:h.get? P0=some (PySem.W.tabObj #[])):h.BuiltinsAt mg P0:=by
 obtain⟨bm,ob,b1,b2,b3,b4,b5,b6⟩:=T.bmain
 refine⟨bm,ob,b1,b2,fun z=> ?_,fun z=> ?_,b3,b4,b5,b6⟩
 ·obtain⟨o,es,ep,e,hd,_⟩:=T.g
  rw [←z,b3] at e
  cases e
  rw [b6] at hd
  cases hd
 ·rw [z,hT] at b3
  cases b3
  cases b6
structure LawT (P:Program) (w:World) (K:Frag) (mg:Str→Option Value) (fa:Addr) (name:Str) (ad:Ad) (C:SK.Ctx) (tn:Str) (F:Fn) (g:FS) (k n m:Nat) (c P0:Addr) (params:Arguments) (body:List Stmt) (scope:Scope):Prop where
 lk: ∃ oc od dV kV doc pm an ct osl,K.lookup fa=some ⟨oc,od, .func (PySem.W.fnOf name name params body scope dV kV doc pm an (.ref c) ct),osl⟩∧ ∀ (s:Shared) (u:Value),BindsTo s (PySem.W.fnOf name name params body scope dV kV doc pm an (.ref c) ct) ⟨[u],[]⟩ [("_law_script",u)]
 cd:PySem.W.codeIn K (.ref c) name=true
 sc:scopeOk (namesOf scope) ["_law_script"] scope=true
 room:Room (k+3) callerA
 tab:tabIn K name=some (c,P0)
 out:K.lookup P0=none
 lx: ∀ (s₁:Shared) (base:Heap) (H:Hp),K.In base→base.Ns mainGlobals mg→PySem.W.CodeHd base c P0→base.BuiltinsAt mg P0→LawX (cxP P0 (cxOf (CXe P w) P w K mg base (namesOf scope) name scope fa (.ref c) callerA [] s₁ H fun _ _ _=>False)) ad C tn F P0 c ((envOfC name scope s₁.heap.objs.size fa (.ref c)).qual++"<lambda>") k
 read:lSs n tn F C body=some g
 len:(namesOf scope).length=m+1
 tru: ∀ ns:List Int,g ([D.lst (ns.map D.int)].map SK.Slot.sh++List.replicate m .no)= .rt (.ok (.bl true))
theorem walkT {l:PySem.W.OpenLaw} {q:Program} {loose:List Str} {XP:(Str→Option Value)→Heap→Prop} {YP:World→Heap→Prop} {d:DefRec} {K:Params→PySem.W.Frag} (hn:l.most=some 63) (hdf:d.params.defaults=[])
  (hY: ∀ (w:World) (h:Heap),YP w h→(K w.params).In h) (hrec: ∃ e,(recsOf q).find? (fun e=>e.name==d.name)=some e)
  (F: ∀ (w:World) (mg:Str→Option Value) (fa:Addr) (h:Heap),(K w.params).In h→h.Ns mainGlobals mg→mg d.name=some (.ref fa)→ ∃ ad C tn F g k n m c P0 params body scope,LawT l.prog w (K w.params) mg fa d.name ad C tn F g k n m c P0 params body scope):
  PySem.W.WalkO q loose XP YP l.row.toRowW d [] (fun f vs=>PySem.call f vs):=by
 refine Att.attach_call hn hdf fun w s₀ s₁ mg mb fa o pm cd doc a vs ns G Y ho hd hcd hmg hobj hints hlen hg=> ?_
 have KX:=hY w _ Y
 obtain⟨ad,C,tn,F',g,k,n,m,c,P0,params,body,scope,L⟩:=F w mg fa _ KX G.T.g hmg
 obtain⟨e,he⟩:=hrec
 obtain⟨hC,hT⟩:=tab_of G.T KX he L.tab
 obtain⟨oc,od,dV,kV,doc',pm',an,ct,osl,lk,hb⟩:=L.lk
 refine nF (d:= .lst (ns.map D.int)) KX G.T.g G.T.b G.T.builtins G.T.nolimit hg hobj hints (Nat.le_trans hlen (by decide)) lk L.cd (a8 L.sc).1 hb L.room hC (xH G.T hT) hT L.out (fun base H=>L.lx s₁ base H) L.read (fun H _ hS=>⟨H,Same.refl _,Reps.cons (by unfold Rep;exact⟨a,_,rfl,hS,Reps.map_int⟩) Reps.nil⟩) L.len (L.tru ns)
theorem cL {a b:FS} {ρ ρ':Rho} (h:a ρ= .nx ρ'):sSeq a b ρ=b ρ':=by simp [sSeq,h]
theorem nG {a b:FS} {ρ:Rho} {r:R} (h:a ρ= .rt r):sSeq a b ρ= .rt r:=by simp [sSeq,h]
theorem nH {i:Nat} {e:F} {ρ:Rho} {d:D} (h:e ρ= .ok d):sSet i e ρ= .nx (ρ.set i (.sh d)):=by simp [sSet,h,outR]
theorem nI {is:List Nat} {e:F} {ρ:Rho} {ds:List D} (h:e ρ= .ok (.tup ds)) (l:ds.length=is.length):sSetN is e ρ= .nx (setN is ds ρ):=by simp [sSetN,h,outR,l]
theorem iA {e:F} {ρ:Rho} {d:D} (h:e ρ= .ok d):sRet e ρ= .rt (.ok d):=by simp [sRet,h]
theorem xI {c:F} {a b:FS} {ρ:Rho} (h:c ρ= .ok (.bl true)):sIf c a b ρ=a ρ:=by simp [sIf,h]
theorem xJ {c:F} {a b:FS} {ρ:Rho} (h:c ρ= .ok (.bl false)):sIf c a b ρ=b ρ:=by simp [sIf,h]
theorem iB {n:Nat} {b:FS} {ds:List D} {d:D} (h:b (ds.map Slot.sh++List.replicate (n - ds.length) .no)= .rt (.ok d)):fnOf n b ds= .ok d:=by simp [fnOf,h]
theorem aN {op:Operator} {a b:F} {ρ:Rho} {x y:D} (h:a ρ= .ok x) (k:b ρ= .ok y):rBin op a b ρ=dBin op x y:=by simp [rBin,h,k,R.bind]
theorem nJ {op:CmpOp} {a b:F} {ρ:Rho} {x y:D} (h:a ρ= .ok x) (k:b ρ= .ok y):rCmp op a b ρ=dCmp op x y:=by simp [rCmp,h,k,R.bind]
theorem jL {a b:F} {ρ:Rho} {x y:D} (h:a ρ= .ok x) (k:b ρ= .ok y):rIx a b ρ=dIx x y:=by simp [rIx,h,k,R.bind]
theorem xK {a b:F} {ρ:Rho} {x:List D} {y:D} (h:a ρ= .ow x) (k:b ρ= .ok y):rIx a b ρ=dIx (.lst x) y:=by simp [rIx,h,k,R.bind]
theorem rCall1 {f:Fn} {a:F} {ρ:Rho} {x:D} (h:a ρ= .ok x):rCall f [a] ρ=f [x]:=by simp [rCall,rAll,args,h,RA.cons,RA.then]
theorem rCall2 {f:Fn} {a b:F} {ρ:Rho} {x y:D} (h:a ρ= .ok x) (k:b ρ= .ok y):rCall f [a,b] ρ=f [x,y]:=by simp [rCall,rAll,args,h,k,RA.cons,RA.then]
theorem rCall3 {f:Fn} {a b c:F} {ρ:Rho} {x y z:D} (h:a ρ= .ok x) (k:b ρ= .ok y) (l:c ρ= .ok z):rCall f [a,b,c] ρ=f [x,y,z]:=by simp [rCall,rAll,args,h,k,l,RA.cons,RA.then]
theorem rTup2 {a b:F} {ρ:Rho} {x y:D} (h:a ρ= .ok x) (k:b ρ= .ok y):rTup [a,b] ρ= .ok (.tup [x,y]):=by simp [rTup,rAll,args,h,k,RA.cons,RA.then]
theorem dZ {xs:List D} {n:Nat} {x:D} (h:xs[n]? =some x):dIx (.lst xs) (.int n)= .ok x:=by
 obtain⟨l,e⟩:=List.getElem?_eq_some_iff.1 h
 simp [dIx,items,ixD,l,e]
theorem xL {i j:Int} (h:sml j=true):dBin .Mult (.int i) (.int j)= .ok (.int (i * j)):=by simp [dBin,dArith,h]
theorem uC {i j:Int} (h:0<j):dBin .Mod (.int i) (.int j)= .ok (.int (i % j)):=by simp [dBin,dArith,h]
theorem gH {t:D→Rho→Option Rho} {b:FS} {I:Rho→Prop}: ∀ {ds:List D} {ρ:Rho},(∀ d∈ds, ∀ ρ,I ρ→ ∃ ρ1 ρ2,t d ρ=some ρ1∧b ρ1= .nx ρ2∧I ρ2)→I ρ→ ∃ ρ',forGo t b ds ρ= .nx ρ'∧I ρ'
 | [],ρ,_,i=>⟨ρ,rfl,i⟩
 | d::r,ρ,h,i=>by
  obtain⟨ρ1,ρ2,a,e,j⟩:=h d (.head _) ρ i
  obtain⟨ρ',f,j'⟩:=gH (ds:=r) (fun x m=>h x (.tail _ m)) j
  exact⟨ρ',by simp [forGo,a,e,f],j'⟩
theorem kB {xs:List D}:plains xs=true↔ ∀ x∈xs,plain x=true:=by
 induction xs with
 | nil=>simp [plains]
 | cons x r ih=>simp [plains,ih]
theorem uD {x y:D} (a:plain x=true) (b:plain y=true) (c:dep y≤60):eqOk x y=true:=by
 have:min (dep x) (dep y)≤60:=Nat.le_trans (Nat.min_le_right ..) c
 simp [eqOk,a,b,this]
theorem uE {x y:D} (h:eqOk x y=true):dCmp .Eq x y= .ok (.bl (deq x y)):=by simp [dCmp,h]
mutual
theorem pL: ∀ d:D,plain d=true→deq d d=true
 | .non,_=>rfl
 | .bl b,_=>by simp [deq]
 | .int i,_=>by simp [deq]
 | .str x,_=>by simp [deq]
 | .tup xs,h=>by simp only [deq];exact d5 xs h
 | .lst xs,h=>by simp only [deq];exact d5 xs h
 | .exc _,h=>by simp [plain] at h
 | .fn _,h=>by simp [plain] at h
theorem d5: ∀ xs:List D,plains xs=true→deqs xs xs=true
 | [],_=>rfl
 | x::r,h=>by
  simp only [plains,Bool.and_eq_true] at h
  simp [deqs,pL x h.1,d5 r h.2]
end
end SK
namespace SK.k64
open SK
noncomputable def m_law_class:Fn:=fun ds=>noEx (fnOf 3 (sSeq (sSet 1 (rLst [rIs (isExc 9) (rVar 0),rIs (isExc 8) (rVar 0),rIs (isExc 3) (rVar 0),rIs (isExc 2) (rVar 0)]))
 (sSeq (sSet 1 (rBin .Add (rVar 1) (rLst [rIs (isExc 5) (rVar 0),rIs (isExc 1) (rVar 0),rIs (isExc 7) (rVar 0)])))
 (sSeq (sSet 1 (rBin .Add (rVar 1) (rLst [rIs (isExc 6) (rVar 0),rIs (isExc 4) (rVar 0)])))
 (sSeq (sIf (rOr (rCmp .NotEq (rMeth dCount (rLook 1) (rK (.bl true))) (rK (.int 1))) (rNot (rIs (isExc 100) (rVar 0))))
 (sSeq (sRet (rK (.str "wrong")))
  (sPass))
 (sPass))
 (sSeq (sSet 2 (rLst [rK (.str "no back"),rK (.str "no label"),rK (.str "no move"),rK (.str "no name"),rK (.str "no sums"),rK (.str "no switch"),rK (.str "no term"),rK (.str "no text"),rK (.str "unlike")]))
 (sSeq (sRet (rIx (rLook 2) (rMeth dIndex (rLook 1) (rK (.bl true)))))
 (sPass))))))) ds)
noncomputable def m_is_whole:Fn:=fnOf 1 (sRet (rAnd (rIs (vL) (rVar 0)) (rNot (rIs (q0) (rVar 0)))))
noncomputable def m_is_whole_below:Fn:=fnOf 2 (sRet (rAnd (rCall m_is_whole [rVar 0]) (rChain .LtE .Lt (rK (.int 0)) (rVar 0) (rVar 1))))
noncomputable def m_are_whole_below:Fn:=fnOf 2 (sRet (rCall dAll [rComp 0 [1] (rLook 0) none (rCall m_is_whole_below [rVar 0,rVar 1])]))
noncomputable def m_is_many:Fn:=fnOf 1 (sRet (rCall m_is_whole_below [rVar 0,rBin .Add (rK (.int 4)) (rK (.int 1))]))
noncomputable def m_is_row:Fn:=fnOf 3 (sRet (rAnd (rIs (bQ) (rVar 0)) (rAnd (rCmp .Eq (rCall dLen [rLook 0]) (rVar 1)) (rCall m_are_whole_below [rVar 0,rVar 2]))))
noncomputable def m_how_many_settings:Fn:=fnOf 1 (sRet (rBin .LShift (rK (.int 1)) (rVar 0)))
noncomputable def m_setting_at:Fn:=fnOf 2 (sRet (rCall dTuple [rComp 0 [1] (iRange (rVar 0)) none (rBin .BitAnd (rBin .RShift (rVar 1) (rVar 0)) (rK (.int 1)))]))
noncomputable def m_how_many_ones:Fn:=fnOf 1 (sRet (rCall dSum [rCall m_setting_at [rK (.int 4),rVar 0]]))
noncomputable def m_is_switch:Fn:=fnOf 1 (sSeq (sIf (rOr (rNot (rIs (bQ) (rVar 0))) (rOr (rCmp .NotEq (rCall dLen [rLook 0]) (rK (.int 2))) (rNot (rCall m_is_many [rIx (rLook 0) (rK (.int 0))]))))
 (sRet (rK (.bl false)))
 (sPass))
 (sRet (rCall m_is_row [rIx (rLook 0) (rK (.int 1)),rCall m_how_many_settings [rIx (rLook 0) (rK (.int 0))],rK (.int 2)])))
noncomputable def m_check_switch:Fn:=fnOf 1 (sIf (rNot (rCall m_is_switch [rVar 0]))
 (sRaise 1)
 (sPass))
noncomputable def m_check_many:Fn:=fnOf 1 (sIf (rNot (rCall m_is_many [rVar 0]))
 (sRaise 2)
 (sPass))
noncomputable def m_ones:Fn:=fnOf 1 (sSeq (sDrop (rCall m_check_switch [rVar 0]))
 (sRet (rComp 2 [] (iEnum (rIx (rLook 0) (rK (.int 1)))) (some (rCmp .Eq (rVar 1) (rK (.int 1)))) (rVar 0))))
noncomputable def m_of_ones:Fn:=fnOf 3 (sSeq (sDrop (rCall m_check_many [rVar 0]))
 (sSeq (sSet 2 (rCall m_how_many_settings [rVar 0]))
 (sSeq (sIf (rOr (rNot (rIs (gQ) (rVar 1))) (rNot (rCall m_are_whole_below [rVar 1,rVar 2])))
 (sRaise 2)
 (sPass))
 (sRet (rTup [rVar 0,rCall dTuple [rComp 0 [1] (iRange (rVar 2)) none (rIf (rCmp .In (rVar 0) (rVar 1)) (rK (.int 1)) (rK (.int 0)))]])))))
noncomputable def m_is_part:Fn:=fnOf 1 (sRet (rOr (rCmp .Is (rVar 0) (rK .non)) (rCall m_is_whole_below [rVar 0,rK (.int 2)])))
noncomputable def m_is_term:Fn:=fnOf 2 (sSeq (sIf (rOr (rNot (rCall m_is_many [rVar 0])) (rOr (rNot (rIs (bQ) (rVar 1))) (rCmp .NotEq (rCall dLen [rLook 1]) (rVar 0))))
 (sRet (rK (.bl false)))
 (sPass))
 (sRet (rCall dAll [rComp 0 [] (rLook 1) none (rCall m_is_part [rVar 0])])))
noncomputable def m_check_term:Fn:=fnOf 2 (sIf (rNot (rCall m_is_term [rVar 0,rVar 1]))
 (sRaise 7)
 (sPass))
noncomputable def m_held_at:Fn:=fnOf 6 (sSeq (sIf (rNot (rIs (bQ) (rVar 0)))
 (sRaise 7)
 (sPass))
 (sSeq (sDrop (rCall m_check_term [rCall dLen [rLook 0],rVar 0]))
 (sSeq (sSet 1 (rLst [rK (.int 0)]))
 (sSeq (sFor [2,3] false (iEnum (rVar 0))
 (sSeq (sSet 4 (rIf (rCmp .Eq (rVar 3) (rK (.int 1))) (rLst []) (rVar 1)))
  (sSeq (sSet 5 (rIf (rCmp .Eq (rVar 3) (rK (.int 0))) (rLst []) (rComp 0 [2] (rLook 1) none (rBin .Add (rVar 0) (rBin .LShift (rK (.int 1)) (rVar 1))))))
  (sSet 1 (rBin .Add (rVar 4) (rVar 5))))))
 (sRet (rVar 1))))))
noncomputable def m_of_terms:Fn:=fnOf 4 (sSeq (sDrop (rCall m_check_many [rVar 0]))
 (sSeq (sIf (rNot (rIs (orP gQ bQ) (rVar 1)))
 (sRaise 7)
 (sPass))
 (sSeq (sOwn 2 (rLst []))
 (sSeq (sFor [3] true (rVar 1)
 (sSeq (sDrop (rCall m_check_term [rVar 0,rVar 3]))
  (sExt 2 (rCall m_held_at [rVar 3]))))
 (sFrz [2] (sRet (rCall m_of_ones [rVar 0,rVar 2])))))))
noncomputable def m_all_terms:Fn:=fnOf 5 (sSeq (sSet 1 (rLst [rTup []]))
 (sSeq (sFor [2] true (iRange (rVar 0))
 (sSeq (sOwn 3 (rLst []))
  (sSeq (sFor [4] true (rVar 1)
  (sExt 3 (rComp 0 [4] (rK (.tup [.int 0, .int 1, .non])) none (rBin .Add (rVar 1) (rTup [rVar 0])))))
  (sFrz [3] (sSet 1 (rVar 3))))))
 (sRet (rVar 1))))
noncomputable def m_widened:Fn:=fnOf 1 (sRet (rComp 2 [0] (iEnum (rVar 0)) (some (rCmp .IsNot (rVar 1) (rK .non))) (rBin .Add (rBin .Add (rCut (rLook 2) none (some (rVar 0))) (rTup [rK .non])) (rCut (rLook 2) (some (rBin .Add (rVar 0) (rK (.int 1)))) none))))
noncomputable def m_primes:Fn:=fnOf 3 (sSeq (sDrop (rCall m_check_switch [rVar 0]))
 (sSeq (sDNew 1)
 (sSeq (sFor [2] true (rCall m_all_terms [rIx (rLook 0) (rK (.int 0))])
 (sIf (rCall dAll [rComp 0 [0] (rCall m_held_at [rVar 2]) none (rCmp .Eq (rIx (rIx (rLook 1) (rK (.int 1))) (rVar 0)) (rK (.int 1)))])
  (sPut 1 (rVar 2) (rK (.bl true)))
  (sPass)))
 (sRet (rComp 0 [1] (iLook 1) (some (rNot (rCall dAny [rComp 0 [1] (rCall m_widened [rVar 0]) none (rInS .In (rVar 0) 1)]))) (rVar 0))))))
noncomputable def m_essentials:Fn:=fnOf 5 (sSeq (sSet 1 (rCall m_primes [rVar 0]))
 (sSeq (sOwn 2 (rBin .Mult (rLst [rK (.int 0)]) (rCall dLen [rIx (rLook 0) (rK (.int 1))])))
 (sSeq (sFor [3] true (rVar 1)
 (sFor [4] true (rCall m_held_at [rVar 3])
  (sAugS 2 (rVar 4) (rK (.int 1)))))
 (sRet (rComp 0 [2] (rLook 1) (some (rCall dAny [rComp 0 [1] (rCall m_held_at [rVar 0]) none (rCmp .Eq (rIx (rLook 1) (rVar 0)) (rK (.int 1)))])) (rVar 0))))))
noncomputable def m_odd_within:Fn:=fnOf 5 (sSeq (sOwn 2 (rLst []))
 (sSeq (sFor [3] true (iRange (rCall m_how_many_settings [rVar 0]))
 (sSeq (sSet 4 (rComp 0 [3] (rLook 1) (some (rCmp .Eq (rBin .BitAnd (rVar 0) (rVar 1)) (rVar 0))) (rVar 0)))
  (sIf (rCmp .Eq (rBin .Mod (rCall dLen [rLook 4]) (rK (.int 2))) (rK (.int 1)))
  (sApp 2 (rVar 3))
  (sPass))))
 (sRet (rGive 2))))
noncomputable def m_products:Fn:=fnOf 2 (sSeq (sSet 1 (rCall m_ones [rVar 0]))
 (sRet (rCall m_odd_within [rIx (rLook 0) (rK (.int 0)),rVar 1])))
noncomputable def m_of_products:Fn:=fnOf 2 (sSeq (sDrop (rCall m_check_many [rVar 0]))
 (sSeq (sIf (rOr (rNot (rIs (gQ) (rVar 1))) (rNot (rCall m_are_whole_below [rVar 1,rCall m_how_many_settings [rVar 0]])))
 (sRaise 2)
 (sPass))
 (sRet (rCall m_of_ones [rVar 0,rCall m_odd_within [rVar 0,rVar 1]]))))
noncomputable def m_degree:Fn:=fnOf 1 (sRet (rCall (dMaxD 0) [rComp 0 [] (rCall m_products [rVar 0]) none (rCall m_how_many_ones [rVar 0])]))
noncomputable def m_law_cell:Fn:=fnOf 2 (sSeq (sIf (rCmp .Lt (rVar 1) (rCall dLen [rLook 0]))
 (sRet (rIx (rLook 0) (rVar 1)))
 (sPass))
 (sSeq (sIf (rCmp .Eq (rVar 0) (rLst []))
 (sRet (rK (.int 0)))
 (sPass))
 (sRet (rBin .Add (rBin .Mult (rIx (rLook 0) (rBin .Mod (rVar 1) (rCall dLen [rLook 0]))) (rK (.int 31))) (rVar 1)))))
noncomputable def m_law_pick:Fn:=fnOf 4 (sSeq (sSet 3 (rBin .Mod (rBin .Mult (rBin .Add (rCall m_law_cell [rVar 0,rVar 1]) (rBin .Mult (rK (.int 6151)) (rBin .Add (rVar 1) (rK (.int 1))))) (rK (.int 40692))) (rK (.int 2147483399))))
 (sRet (rBin .Mod (rBin .Mod (rBin .Add (rBin .Mult (rVar 3) (rVar 3)) (rBin .FloorDiv (rVar 3) (rK (.int 31)))) (rK (.int 2147483629))) (rVar 2))))
noncomputable def uF:FS:=sSeq (sOwn 1 (rLst [rK .non,rTup [],rTup [rK (.int 5),rBin .Mult (rTup [rK (.int 0)]) (rK (.int 32))],rTup [rK (.int 1),rTup [rK (.int 0)]],rTup [rK (.int 1),rTup [rK (.int 0),rK (.int 2)]],rTup [rK (.int 1),rLst [rK (.int 0),rK (.int 1)]],rTup [rK (.bl true),rTup [rK (.int 0),rK (.int 1)]],rK (.int 5)]))
 (sSeq (sExt 1 (rLst [rTup [rK (.int 0),rTup [rK (.bl true)]],rTup [rK (.int 2),rTup [rK (.int 0),rK (.int 0),rK (.int 0)]]]))
 (sSeq (sSet 2 (rLst [rK .non,rK (.int 5),rTup [rK (.int 0),rK (.int 2)],rTup [rK (.int 0),rK (.int 1),rK (.int 0),rK (.int 1),rK (.int 0)],rLst [rK (.int 0),rK (.int 1)],rTup [rK (.int 0),rK (.bl true)],rTup [rK (.str "0"),rK (.int 1)],rTup [rNeg (rK (.int 1)),rK (.int 0)],rK (.str "01"),rTup [rK .non,rTup []]]))
 (sSeq (sFor [4] true (iRange (rK (.int 4)))
 (sSeq (sSetN [7,6] (rTup [rIx (rLook 1) (rBin .Mod (rBin .Add (rCall m_law_pick [rVar 0,rK (.int 0),rK (.int 10)]) (rBin .Mult (rK (.int 3)) (rVar 4))) (rK (.int 10))),rIx (rLook 2) (rBin .Mod (rBin .Add (rCall m_law_pick [rVar 0,rK (.int 1),rK (.int 10)]) (rBin .Mult (rK (.int 3)) (rVar 4))) (rK (.int 10)))]))
  (sSeq (sSet 5 (rIx (rLst [rK (.int 5),rNeg (rK (.int 1)),rK .non,rK (.bl true),rK (.str "1"),rTup [rK (.int 0)]]) (rBin .Mod (rBin .Add (rCall m_law_pick [rVar 0,rK (.int 2),rK (.int 6)]) (rVar 4)) (rK (.int 6)))))
  (sSeq (sOwn 3 (rLst [rTold m_law_class [7] (rCall m_primes [rVar 0])]))
  (sSeq (sApp 3 (rTold m_law_class [7] (rCall m_essentials [rVar 0])))
  (sSeq (sApp 3 (rTold m_law_class [7] (rCall m_products [rVar 0])))
  (sSeq (sApp 3 (rTold m_law_class [7] (rCall m_degree [rVar 0])))
  (sSeq (sIf (rCmp .NotEq (rLook 3) (rBin .Mult (rLst [rK (.str "no switch")]) (rK (.int 4))))
  (sSeq (sRet (rK (.bl false)))
   (sPass))
  (sPass))
  (sSeq (sOwn 3 (rLst [rTold m_law_class [6] (rCall m_held_at [rVar 0])]))
  (sSeq (sApp 3 (rTold m_law_class [6] (rCall m_of_terms [rK (.int 2),rLst [rTup [rK (.int 0),rK (.int 1)],rVar 0]])))
  (sSeq (sApp 3 (rTold m_law_class [] (rCall m_of_terms [rK (.int 3),rLst [rTup [rK (.int 0),rK (.int 1)]]])))
  (sSeq (sIf (rCmp .NotEq (rLook 3) (rBin .Mult (rLst [rK (.str "no term")]) (rK (.int 3))))
  (sSeq (sRet (rK (.bl false)))
   (sPass))
  (sPass))
  (sSeq (sOwn 3 (rLst [rTold m_law_class [5,6] (rCall m_of_terms [rVar 0,rLst [rVar 1]])]))
  (sSeq (sApp 3 (rTold m_law_class [5] (rCall m_of_products [rVar 0,rLst []])))
  (sSeq (sApp 3 (rTold m_law_class [4] (rCall m_of_products [rK (.int 2),rLst [rK (.int 0),rIx (rLst [rK (.int 4),rNeg (rK (.int 1)),rK .non,rK (.bl true)]) (rVar 0)]])))
  (sSeq (sIf (rCmp .NotEq (rLook 3) (rBin .Mult (rLst [rK (.str "no name")]) (rK (.int 3))))
  (sSeq (sRet (rK (.bl false)))
   (sPass))
  (sPass))
  (sSeq (sIf (rOr (rCmp .IsNot (rCall m_is_term [rK (.int 2),rVar 6]) (rK (.bl false))) (rOr (rCmp .IsNot (rCall m_is_term [rVar 5,rTup []]) (rK (.bl false))) (rCmp .IsNot (rCall m_is_term [rK (.int 2),rVar 7]) (rK (.bl false)))))
  (sSeq (sRet (rK (.bl false)))
   (sPass))
  (sPass))
  (sPass))))))))))))))))))
 (sSeq (sIf (rOr (rCmp .IsNot (rCall m_is_term [rK (.int 0),rTup []]) (rK (.bl true))) (rOr (rCmp .IsNot (rCall m_is_term [rK (.int 2),rTup [rK .non,rK (.int 1)]]) (rK (.bl true))) (rCmp .IsNot (rCall m_is_term [rK (.int 1),rTup [rK .non,rK (.int 1)]]) (rK (.bl false)))))
 (sSeq (sRet (rK (.bl false)))
  (sPass))
 (sPass))
 (sSeq (sRet (rAnd (rCmp .Eq (rCall m_held_at [rTup []]) (rLst [rK (.int 0)])) (rAnd (rCmp .Eq (rCall m_of_terms [rK (.int 2),rTup []]) (rTup [rK (.int 2),rTup [rK (.int 0),rK (.int 0),rK (.int 0),rK (.int 0)]])) (rCmp .Eq (rCall m_of_products [rK (.int 0),rLst [rK (.int 0),rK (.int 0),rK (.int 0)]]) (rTup [rK (.int 0),rTup [rK (.int 1)]])))))
 (sPass))))))
open PySem
noncomputable abbrev Sc (ns:List Int):D:= .lst (ns.map D.int)
theorem pM (ns:List Int):plain (Sc ns)=true:=by
 show plains (ns.map D.int)=true
 rw [kB];intro x m;obtain⟨i,_,rfl⟩:=List.mem_map.1 m;rfl
noncomputable def cellI (ns:List Int) (k:Nat):Int:=if k<ns.length then ns.getD k 0 else if ns=[] then 0 else ns.getD (k % ns.length) 0 * 31+k
theorem uG (ns:List Int) (k:Nat):m_law_cell [Sc ns, .int k]= .ok (.int (cellI ns k)):=by
 have h0:dLen [Sc ns]= .ok (.int ns.length):=by simp [dLen,items]
 by_cases h:k<ns.length
 ·have e:(ns.map D.int)[k]? =some (D.int (cellI ns k)):=by simp [cellI,h]
  refine iB (nG ((xI ?_).trans (iA ((jL rfl rfl).trans (dZ e)))))
  refine(nJ rfl ((rCall1 rfl).trans h0)).trans ?_
  simp [dCmp,h]
 ·refine iB ((cL ((xJ ((nJ rfl ((rCall1 rfl).trans h0)).trans ?_)).trans rfl)).trans ?_)
  ·simp [dCmp];omega
  have he:rCmp .Eq (rVar 0) (rLst []) [.sh (Sc ns), .sh (.int k)]= .ok (.bl (decide (ns=[]))):=by
   show dCmp .Eq (Sc ns) (.lst [])=_
   rw [uE (uD (pM ns) rfl (by decide))]
   cases ns<;>simp [deq,deqs]
  by_cases h1:ns=[]
  ·subst h1
   exact nG ((xI (he.trans rfl)).trans rfl)
  ·refine(cL ((xJ (he.trans (by simp [h1]))).trans rfl)).trans (iA ?_)
   have l:0<ns.length:=List.length_pos_iff.2 h1
   have e:(ns.map D.int)[k % ns.length]? =some (D.int (ns.getD (k % ns.length) 0)):=by simp [Nat.mod_lt _ l]
   have e2:dBin .Mod (.int k) (.int ns.length)= .ok (.int ((k % ns.length:Nat):Int)):=by
    have:(0:Int)<ns.length:=by omega
    simp [dBin,dArith,this];omega
   refine(aN ((aN ((jL rfl ((aN rfl ((rCall1 rfl).trans h0)).trans e2)).trans (dZ e)) rfl).trans (xL rfl)) rfl).trans ?_
   simp [dBin,dArith,cellI,h,h1]
noncomputable def drawnI (ns:List Int) (k:Nat):Int:=(cellI ns k+6151 * (k+1)) * 40692 % 2147483399
noncomputable def pickI (ns:List Int) (k:Nat) (m:Int):Int:=(drawnI ns k * drawnI ns k+drawnI ns k / 31) % 2147483629 % m
theorem uH (ns:List Int) (k:Nat) {m:Int} (hm:0<m):m_law_pick [Sc ns, .int k, .int m]= .ok (.int (pickI ns k m)):=by
 have h1:rBin .Mod (rBin .Mult (rBin .Add (rCall m_law_cell [rVar 0,rVar 1]) (rBin .Mult (rK (.int 6151)) (rBin .Add (rVar 1) (rK (.int 1))))) (rK (.int 40692))) (rK (.int 2147483399)) [.sh (Sc ns), .sh (.int k), .sh (.int m), .no]= .ok (.int (drawnI ns k)):=by
  refine(aN ((aN ((aN ((rCall2 rfl rfl).trans (uG ns k)) (y:= .int (6151 * (k+1))) ?_).trans rfl) rfl).trans (?_:_=R.ok (.int ((cellI ns k+6151 * (k+1)) * 40692)))) rfl).trans ?_
  ·refine(aN rfl rfl).trans ?_;simp [dBin,dArith,sml]
  ·simp [dBin,dArith,sml]
  ·simp [dBin,dArith,drawnI]
 refine iB ((cL (nH h1)).trans (iA ?_))
 unfold pickI
 have hs:sml (drawnI ns k)=true:=by
  have:0≤drawnI ns k∧drawnI ns k<2147483399:=by unfold drawnI;omega
  simp [sml];omega
 generalize drawnI ns k=x at *
 have h2:rBin .FloorDiv (rVar 3) (rK (.int 31)) [.sh (Sc ns), .sh (.int k), .sh (.int m), .sh (.int (x))]= .ok (.int (x / 31)):=by
  refine(aN rfl rfl).trans ?_;simp [dBin,dArith]
 have h3:rBin .Mult (rVar 3) (rVar 3) [.sh (Sc ns), .sh (.int k), .sh (.int m), .sh (.int x)]= .ok (.int (x * x)):=by
  refine(aN rfl rfl).trans ?_;simp [dBin,dArith,hs]
 refine(aN ((aN ((aN h3 h2).trans rfl) rfl).trans (?_:_=R.ok (.int ((x * x+x / 31) % 2147483629)))) rfl).trans ?_
 ·simp [dBin,dArith]
 ·exact uC hm
theorem iC (ns:List Int) (k:Nat) {m:Int} (hm:0<m):0≤pickI ns k m∧pickI ns k m<m:=⟨Int.emod_nonneg _ (by omega),Int.emod_lt_of_pos _ hm⟩
theorem jM (ns:List Int) (k:Nat) {m:Nat} (hm:0<m): ∃ p:Nat,m_law_pick [Sc ns, .int k, .int m]= .ok (.int p)∧p<m:=by
 obtain⟨h1,h2⟩:=iC ns k (m:=m) (by omega)
 refine⟨(pickI ns k m).toNat, ?_,by omega⟩
 rw [uH ns k (by omega),Int.toNat_of_nonneg h1]
noncomputable def odd:List D:=[.non, .tup [], .tup [.int 5, .tup (List.replicate 32 (.int 0))], .tup [.int 1, .tup [.int 0]], .tup [.int 1, .tup [.int 0, .int 2]], .tup [.int 1, .lst [.int 0, .int 1]], .tup [.bl true, .tup [.int 0, .int 1]], .int 5, .tup [.int 0, .tup [.bl true]], .tup [.int 2, .tup [.int 0, .int 0, .int 0]]]
noncomputable def bad:List D:=[.non, .int 5, .tup [.int 0, .int 2], .tup [.int 0, .int 1, .int 0, .int 1, .int 0], .lst [.int 0, .int 1], .tup [.int 0, .bl true], .tup [.str "0", .int 1], .tup [.int (-1), .int 0], .str "01", .tup [.non, .tup []]]
noncomputable def mns:List D:=[.int 5, .int (-1), .non, .bl true, .str "1", .tup [.int 0]]
noncomputable abbrev r1 (s0 s3 s4 s5 s6 s7:Slot):Rho:=[s0, .ow odd, .sh (.lst bad),s3,s4,s5,s6,s7]
noncomputable def st1:FS:=sSetN [7,6] (rTup [rIx (rLook 1) (rBin .Mod (rBin .Add (rCall m_law_pick [rVar 0,rK (.int 0),rK (.int 10)]) (rBin .Mult (rK (.int 3)) (rVar 4))) (rK (.int 10))),rIx (rLook 2) (rBin .Mod (rBin .Add (rCall m_law_pick [rVar 0,rK (.int 1),rK (.int 10)]) (rBin .Mult (rK (.int 3)) (rVar 4))) (rK (.int 10)))])
noncomputable def st2:FS:=sSet 5 (rIx (rLst [rK (.int 5),rNeg (rK (.int 1)),rK .non,rK (.bl true),rK (.str "1"),rTup [rK (.int 0)]]) (rBin .Mod (rBin .Add (rCall m_law_pick [rVar 0,rK (.int 2),rK (.int 6)]) (rVar 4)) (rK (.int 6))))
noncomputable def seqL:List FS→FS→FS
 | [],k=>k
 | a::r,k=>sSeq a (seqL r k)
theorem eY {k:FS}: ∀ {l:List FS} {ρ ρ':Rho},seqL l sPass ρ= .nx ρ'→seqL l k ρ=k ρ'
 | [],ρ,ρ',h=>by cases h;rfl
 | a::r,ρ,ρ',h=>by
  have h':sSeq a (seqL r sPass) ρ= .nx ρ':=h
  show sSeq a (seqL r k) ρ=k ρ'
  unfold sSeq at h' ⊢
  cases e:a ρ with
  | nx ρ1=>rw [e] at h';exact eY h'
  | rt _=>rw [e] at h';cases h'
  | bk _=>rw [e] at h';cases h'
  | ct _=>rw [e] at h';cases h'
  | ex _ _=>rw [e] at h';cases h'
noncomputable def lA:List FS:=[sOwn 3 (rLst [rTold m_law_class [7] (rCall m_primes [rVar 0])]),
 sApp 3 (rTold m_law_class [7] (rCall m_essentials [rVar 0])),
 sApp 3 (rTold m_law_class [7] (rCall m_products [rVar 0])),
 sApp 3 (rTold m_law_class [7] (rCall m_degree [rVar 0])),
 sIf (rCmp .NotEq (rLook 3) (rBin .Mult (rLst [rK (.str "no switch")]) (rK (.int 4))))
  (sSeq (sRet (rK (.bl false)))
   (sPass))
  (sPass)]
noncomputable def lB:List FS:=[sOwn 3 (rLst [rTold m_law_class [6] (rCall m_held_at [rVar 0])]),
 sApp 3 (rTold m_law_class [6] (rCall m_of_terms [rK (.int 2),rLst [rTup [rK (.int 0),rK (.int 1)],rVar 0]])),
 sApp 3 (rTold m_law_class [] (rCall m_of_terms [rK (.int 3),rLst [rTup [rK (.int 0),rK (.int 1)]]])),
 sIf (rCmp .NotEq (rLook 3) (rBin .Mult (rLst [rK (.str "no term")]) (rK (.int 3))))
  (sSeq (sRet (rK (.bl false)))
   (sPass))
  (sPass)]
noncomputable def lC:List FS:=[sOwn 3 (rLst [rTold m_law_class [5,6] (rCall m_of_terms [rVar 0,rLst [rVar 1]])]),
 sApp 3 (rTold m_law_class [5] (rCall m_of_products [rVar 0,rLst []])),
 sApp 3 (rTold m_law_class [4] (rCall m_of_products [rK (.int 2),rLst [rK (.int 0),rIx (rLst [rK (.int 4),rNeg (rK (.int 1)),rK .non,rK (.bl true)]) (rVar 0)]])),
 sIf (rCmp .NotEq (rLook 3) (rBin .Mult (rLst [rK (.str "no name")]) (rK (.int 3))))
  (sSeq (sRet (rK (.bl false)))
   (sPass))
  (sPass)]
noncomputable def lD:List FS:=[sIf (rOr (rCmp .IsNot (rCall m_is_term [rK (.int 2),rVar 6]) (rK (.bl false))) (rOr (rCmp .IsNot (rCall m_is_term [rVar 5,rTup []]) (rK (.bl false))) (rCmp .IsNot (rCall m_is_term [rK (.int 2),rVar 7]) (rK (.bl false)))))
  (sSeq (sRet (rK (.bl false)))
   (sPass))
  (sPass)]
noncomputable def rest:FS:=seqL lA (seqL lB (seqL lC (seqL lD sPass)))
noncomputable def tl:FS:=sSeq (sIf (rOr (rCmp .IsNot (rCall m_is_term [rK (.int 0),rTup []]) (rK (.bl true))) (rOr (rCmp .IsNot (rCall m_is_term [rK (.int 2),rTup [rK .non,rK (.int 1)]]) (rK (.bl true))) (rCmp .IsNot (rCall m_is_term [rK (.int 1),rTup [rK .non,rK (.int 1)]]) (rK (.bl false)))))
 (sSeq (sRet (rK (.bl false)))
  (sPass))
 (sPass))
 (sSeq (sRet (rAnd (rCmp .Eq (rCall m_held_at [rTup []]) (rLst [rK (.int 0)])) (rAnd (rCmp .Eq (rCall m_of_terms [rK (.int 2),rTup []]) (rTup [rK (.int 2),rTup [rK (.int 0),rK (.int 0),rK (.int 0),rK (.int 0)]])) (rCmp .Eq (rCall m_of_products [rK (.int 0),rLst [rK (.int 0),rK (.int 0),rK (.int 0)]]) (rTup [rK (.int 0),rTup [rK (.int 1)]])))))
 (sPass))
noncomputable def hd (k:FS):FS:=sSeq (sOwn 1 (rLst [rK .non,rTup [],rTup [rK (.int 5),rBin .Mult (rTup [rK (.int 0)]) (rK (.int 32))],rTup [rK (.int 1),rTup [rK (.int 0)]],rTup [rK (.int 1),rTup [rK (.int 0),rK (.int 2)]],rTup [rK (.int 1),rLst [rK (.int 0),rK (.int 1)]],rTup [rK (.bl true),rTup [rK (.int 0),rK (.int 1)]],rK (.int 5)])) k
theorem tA (s0 s3 s4 s5 s6:Slot):((List.range 10).map fun i=>seqL lA sPass (r1 s0 s3 s4 s5 s6 (.sh (odd.getD (i) .non))))=(List.range 10).map fun i=>Out.nx (r1 s0 (.ow (List.replicate 4 (.str "no switch"))) s4 s5 s6 (.sh (odd.getD (i) .non))):=by kernel_rfl
theorem tB (s0 s3 s4 s5 s7:Slot):((List.range 10).map fun i=>seqL lB sPass (r1 s0 s3 s4 s5 (.sh (bad.getD (i) .non)) s7))=(List.range 10).map fun i=>Out.nx (r1 s0 (.ow (List.replicate 3 (.str "no term"))) s4 s5 (.sh (bad.getD (i) .non)) s7):=by kernel_rfl
theorem tC (s0 s3 s7:Slot):((List.range 240).map fun i=>seqL lC sPass (r1 s0 s3 (.sh (.int (i / 60:Nat))) (.sh (mns.getD (i % 6) .non)) (.sh (bad.getD (i / 6 % 10) .non)) s7))=(List.range 240).map fun i=>Out.nx (r1 s0 (.ow (List.replicate 3 (.str "no name"))) (.sh (.int (i / 60:Nat))) (.sh (mns.getD (i % 6) .non)) (.sh (bad.getD (i / 6 % 10) .non)) s7):=by kernel_rfl
theorem tD (s0 s3 s4:Slot):((List.range 600).map fun i=>seqL lD sPass (r1 s0 s3 s4 (.sh (mns.getD (i % 6) .non)) (.sh (bad.getD (i / 6 % 10) .non)) (.sh (odd.getD (i / 60) .non))))=(List.range 600).map fun i=>Out.nx (r1 s0 s3 s4 (.sh (mns.getD (i % 6) .non)) (.sh (bad.getD (i / 6 % 10) .non)) (.sh (odd.getD (i / 60) .non))):=by kernel_rfl
theorem xM (s0 s3 s4 s5 s6 s7:Slot):tl (r1 s0 s3 s4 s5 s6 s7)= .rt (.ok (.bl true)):=by kernel_rfl
theorem xN (ns:List Int) {k j m q:Nat} (hm:0<m) (hk:k<4) {s1 s2 s3 s5 s6 s7:Slot}: ∃ a:Nat,a<10∧rBin .Mod (rBin .Add (rCall m_law_pick [rVar 0,rK (.int j),rK (.int 10)]) (rBin .Mult (rK (.int 3)) (rVar 4))) (rK (.int 10)) [.sh (Sc ns),s1,s2,s3, .sh (.int k),s5,s6,s7]= .ok (.int (a:Nat)):=by
 obtain⟨p,ep,lp⟩:=jM ns j (m:=10) (by decide)
 have h1:rCall m_law_pick [rVar 0,rK (.int j),rK (.int 10)] [.sh (Sc ns),s1,s2,s3, .sh (.int k),s5,s6,s7]= .ok (.int (p:Nat)):=(rCall3 (y:= .int (j:Int)) (z:= .int ((10:Nat):Int)) rfl rfl rfl).trans ep
 have h2:rBin .Mult (rK (.int 3)) (rVar 4) [.sh (Sc ns),s1,s2,s3, .sh (.int k),s5,s6,s7]= .ok (.int (3 * k)):=by
  refine(aN rfl rfl).trans ?_
  have:k=0∨k=1∨k=2∨k=3:=by omega
  rcases this with rfl | rfl | rfl | rfl<;>rfl
 refine⟨(p+3 * k) % 10,Nat.mod_lt _ (by decide),(aN ((aN h1 h2).trans (show _=R.ok (.int (p+3 * k:Nat)) from ?_)) rfl).trans ?_⟩
 ·simp [dBin,dArith]
 ·simp [dBin,dArith]
theorem uI (ns:List Int) {k:Nat} {s1 s2 s3 s5 s6 s7:Slot}: ∃ a:Nat,a<6∧rBin .Mod (rBin .Add (rCall m_law_pick [rVar 0,rK (.int 2),rK (.int 6)]) (rVar 4)) (rK (.int 6)) [.sh (Sc ns),s1,s2,s3, .sh (.int k),s5,s6,s7]= .ok (.int (a:Nat)):=by
 obtain⟨p,ep,lp⟩:=jM ns 2 (m:=6) (by decide)
 have h1:rCall m_law_pick [rVar 0,rK (.int 2),rK (.int 6)] [.sh (Sc ns),s1,s2,s3, .sh (.int k),s5,s6,s7]= .ok (.int (p:Nat)):=(rCall3 (y:= .int ((2:Nat):Int)) (z:= .int ((6:Nat):Int)) rfl rfl rfl).trans ep
 refine⟨(p+k) % 6,Nat.mod_lt _ (by decide),(aN ((aN h1 rfl).trans (show _=R.ok (.int (p+k:Nat)) from ?_)) rfl).trans ?_⟩
 ·simp [dBin,dArith]
 ·simp [dBin,dArith]
theorem uJ {l:List D} {a:Nat} (h:a<l.length):l[a]? =some (l.getD a .non):=by simp [h]
theorem step (ns:List Int) {k:Nat} (hk:k<4) (s3 s5 s6 s7:Slot): ∃ s3' s5' s6' s7',sSeq st1 (sSeq st2 rest) (r1 (.sh (Sc ns)) s3 (.sh (.int (k:Nat))) s5 s6 s7)= .nx (r1 (.sh (Sc ns)) s3' (.sh (.int (k:Nat))) s5' s6' s7'):=by
 obtain⟨a,la,ea⟩:=xN ns (k:=k) (j:=0) (m:=10) (q:=0) (by decide) hk (s1:= .ow odd) (s2:= .sh (.lst bad)) (s3:=s3) (s5:=s5) (s6:=s6) (s7:=s7)
 obtain⟨b,lb,eb⟩:=xN ns (k:=k) (j:=1) (m:=10) (q:=0) (by decide) hk (s1:= .ow odd) (s2:= .sh (.lst bad)) (s3:=s3) (s5:=s5) (s6:=s6) (s7:=s7)
 obtain⟨c,lc,ec⟩:=uI ns (k:=k) (s1:= .ow odd) (s2:= .sh (.lst bad)) (s3:=s3) (s5:=s5) (s6:= .sh (bad.getD b .non)) (s7:= .sh (odd.getD a .non))
 have h1:st1 (r1 (.sh (Sc ns)) s3 (.sh (.int (k:Nat))) s5 s6 s7)= .nx (r1 (.sh (Sc ns)) s3 (.sh (.int (k:Nat))) s5 (.sh (bad.getD b .non)) (.sh (odd.getD a .non))):=
  nI (rTup2 ((jL rfl ea).trans (dZ (uJ (l:=odd) la))) ((jL rfl eb).trans (dZ (uJ (l:=bad) lb)))) rfl
 have h2:st2 (r1 (.sh (Sc ns)) s3 (.sh (.int (k:Nat))) s5 (.sh (bad.getD b .non)) (.sh (odd.getD a .non)))= .nx (r1 (.sh (Sc ns)) s3 (.sh (.int (k:Nat))) (.sh (mns.getD c .non)) (.sh (bad.getD b .non)) (.sh (odd.getD a .non))):=
  nH ((xK rfl ec).trans (dZ (uJ (l:=mns) lc)))
 have hA:=eY (k:=seqL lB (seqL lC (seqL lD sPass))) ((List.map_inj_left.mp (tA (.sh (Sc ns)) s3 (.sh (.int (k:Nat))) (.sh (mns.getD c .non)) (.sh (bad.getD b .non)))) a (zPd la))
 have hB:=eY (k:=seqL lC (seqL lD sPass)) ((List.map_inj_left.mp (tB (.sh (Sc ns)) (.ow (List.replicate 4 (.str "no switch"))) (.sh (.int (k:Nat))) (.sh (mns.getD c .non)) (.sh (odd.getD a .non)))) b (zPd lb))
 have hC:=(List.map_inj_left.mp (tC (.sh (Sc ns)) (.ow (List.replicate 3 (.str "no term"))) (.sh (odd.getD a .non)))) (k * 60+b * 6+c) (zPd (by omega))
 rw [show(k * 60+b * 6+c) / 60=k by omega,show(k * 60+b * 6+c) % 6=c by omega,show(k * 60+b * 6+c) / 6 % 10=b by omega] at hC
 have hC:=eY (k:=seqL lD sPass) hC
 have hD:=(List.map_inj_left.mp (tD (.sh (Sc ns)) (.ow (List.replicate 3 (.str "no name"))) (.sh (.int (k:Nat))))) (a * 60+b * 6+c) (zPd (by omega))
 rw [show(a * 60+b * 6+c) / 60=a by omega,show(a * 60+b * 6+c) % 6=c by omega,show(a * 60+b * 6+c) / 6 % 10=b by omega] at hD
 exact⟨_,_,_,_,(cL h1).trans ((cL h2).trans (hA.trans (hB.trans (hC.trans hD))))⟩
theorem yM (ns:List Int):uF ([D.lst (ns.map D.int)].map SK.Slot.sh++List.replicate 7 .no)= .rt (.ok (.bl true)):=by
 obtain⟨ρ',e,s3,s4,s5,s6,s7,hρ⟩:=gH (t:=tgtS [4] true) (b:=sSeq st1 (sSeq st2 rest)) (I:=fun ρ=> ∃ s3 s4 s5 s6 s7,ρ=r1 (.sh (Sc ns)) s3 s4 s5 s6 s7) (ds:=(List.range 4).map fun(k:Nat)=>D.int (k:Int)) (ρ:=r1 (.sh (Sc ns)) .no .no .no .no .no) (fun d hd ρ hI=>by
  obtain⟨k,hk,rfl⟩:=List.mem_map.mp hd
  obtain⟨s3,s4,s5,s6,s7,rfl⟩:=hI
  obtain⟨s3',s5',s6',s7',e⟩:=step ns (zRd hk) s3 s5 s6 s7
  exact⟨_,_,rfl,e,_,_,_,_,_,rfl⟩) ⟨_,_,_,_,_,rfl⟩
 subst hρ
 have h0:uF [.sh (Sc ns), .no, .no, .no, .no, .no, .no, .no]=sSeq (sFor [4] true (iRange (rK (.int 4))) (sSeq st1 (sSeq st2 rest))) tl (r1 (.sh (Sc ns)) .no .no .no .no .no):=by rfl
 refine h0.trans ((cL (show sFor [4] true (iRange (rK (.int 4))) (sSeq st1 (sSeq st2 rest)) (r1 (.sh (Sc ns)) .no .no .no .no .no)= .nx _ from e)).trans (xM _ _ _ _ _ _))
open PySem.Spec PyProof.Rows L2 PySem.W
noncomputable abbrev KK (w:World):PySem.W.Frag:=kK w.params
noncomputable abbrev ge (x:Str) (g:SK.Gl):Str×SK.Gl:=(x,g)
noncomputable def tbL:List (Str×SK.Gl):=[ge "_law_pick" (.fn 27 3 m_law_pick),ge "_law_cell" (.fn 26 2 m_law_cell),ge "degree" (.fn 25 1 m_degree),ge "of_products" (.fn 24 2 m_of_products),ge "products" (.fn 23 1 m_products),ge "odd_within" (.fn 22 2 m_odd_within),ge "essentials" (.fn 21 1 m_essentials),ge "primes" (.fn 20 1 m_primes),ge "widened" (.fn 19 1 m_widened),ge "all_terms" (.fn 18 1 m_all_terms),ge "of_terms" (.fn 17 2 m_of_terms),ge "held_at" (.fn 16 1 m_held_at),ge "check_term" (.fn 15 2 m_check_term),ge "is_term" (.fn 14 2 m_is_term),ge "is_part" (.fn 13 1 m_is_part),ge "of_ones" (.fn 12 2 m_of_ones),ge "ones" (.fn 11 1 m_ones),ge "check_many" (.fn 10 1 m_check_many),ge "check_switch" (.fn 9 1 m_check_switch),ge "is_switch" (.fn 8 1 m_is_switch),ge "how_many_ones" (.fn 7 1 m_how_many_ones),ge "setting_at" (.fn 6 2 m_setting_at),ge "how_many_settings" (.fn 5 1 m_how_many_settings),ge "is_row" (.fn 4 3 m_is_row),ge "is_many" (.fn 3 1 m_is_many),ge "are_whole_below" (.fn 2 2 m_are_whole_below),ge "is_whole_below" (.fn 1 2 m_is_whole_below),ge "is_whole" (.fn 0 1 m_is_whole),ge (pyName .max) (.py .max),ge (pyName .any) (.py .any),ge (pyName .all) (.py .all),ge (pyName .sum) (.py .sum),ge (pyName .list) (.py .list),ge (pyName .tuple) (.py .tuple),ge (pyName .bool) (.py .bool),ge (pyName .int) (.py .int),ge (pyName .isin) (.py .isin),ge (pyName .enum) (.py .enum),ge (pyName .range) (.py .range),ge (pyName .len) (.py .len),ge "ValueError" .verr,ge "NoBack" (.exc 9),ge "NoLabel" (.exc 8),ge "NoTerm" (.exc 7),ge "NoText" (.exc 6),ge "NoSums" (.exc 5),ge "Unlike" (.exc 4),ge "NoMove" (.exc 3),ge "NoName" (.exc 2),ge "NoSwitch" (.exc 1),ge "SwitchError" (.exc 0),ge "PARTS" (.val (.tup [.int 0, .int 1, .non])),ge "MOST_NAMES" (.val (.int 4))]
noncomputable def flL:List (Nat×Fn):=[(1,m_is_whole),(2,m_is_whole_below),(2,m_are_whole_below),(1,m_is_many),(3,m_is_row),(1,m_how_many_settings),(2,m_setting_at),(1,m_how_many_ones),(1,m_is_switch),(1,m_check_switch),(1,m_check_many),(1,m_ones),(2,m_of_ones),(1,m_is_part),(2,m_is_term),(2,m_check_term),(1,m_held_at),(2,m_of_terms),(1,m_all_terms),(1,m_widened),(1,m_primes),(1,m_essentials),(2,m_odd_within),(1,m_products),(2,m_of_products),(1,m_degree),(2,m_law_cell),(3,m_law_pick)]
set_option maxHeartbeats 0 in
theorem all_mk {l:PySem.W.OpenLaw} {w:World} {h:Heap} {mg:Str→Option Value} {fa:Addr} (X:(KK w).In h) (G:h.Ns mainGlobals mg) (hfa:mg "law"=some (.ref fa)):
  ∃ ad C tn F g k n m c P0 params body scope,LawT l.prog w (KK w) mg fa "law" ad C tn F g k n m c P0 params body scope:=by
 cases hfa.symm.trans (PySem.W.mg_of X G (n:="law") (v:= .ref 329) (by kernel_rfl))
 refine⟨(adOf [24,37,49,61,73,85,97,109,121,133] 24 [142,149,154,161,168,175,180,187,194,201,208,213,218,226,231,238,243,250,255,260,265,270,275,282,289,294,301,308]),⟨tbL,flL,defScope (top 48),namesOf (defScope (top 48)),blds 50 (defBody (top 48))⟩,"_law_told",m_law_class,uF,28,100,7,328,324,defArgs (top 48),defBody (top 48),defScope (top 48), ?_⟩
 refine⟨⟨_,_,_,_,_,_,_,_,_,rfl,fun s u=> .of_eq rfl⟩,by kernel_rfl,by kernel_rfl,⟨rfl,by decide,by decide⟩,by kernel_rfl,by kernel_rfl,fun s₁ base H KX GX hC hB=> ?_,by kernel_rfl,by kernel_rfl,yM⟩
 have t:PQ l.prog w (KK w) mg base base (adOf [24,37,49,61,73,85,97,109,121,133] 24 [142,149,154,161,168,175,180,187,194,201,208,213,218,226,231,238,243,250,255,260,265,270,275,282,289,294,301,308]) 0 [] []:= .nil KX GX (tQ (by kernel_rfl) (by kernel_rfl))
 have t:=t.int "MOST_NAMES" 4 353
 have t:=t.val "PARTS" (u:= .ref 219) (v:= .ref 219) rfl (fun G=>m6 (ds:=[.int 0, .int 1, .non]) (vs:=[.int 0, .int 1, .non]) rfl rfl rfl rfl (by decide) (by repeat (first | exact .nil | refine .cons ⟨_,rfl⟩ ?_ | refine .cons rfl ?_)) (by repeat (first | exact Reps.nil | refine Reps.cons (by unfold Rep;rfl) ?_)))
 have t:=t.exc "SwitchError" 0
 have t:=t.exc "NoSwitch" 1
 have t:=t.exc "NoName" 2
 have t:=t.exc "NoMove" 3
 have t:=t.exc "Unlike" 4
 have t:=t.exc "NoSums" 5
 have t:=t.exc "NoText" 6
 have t:=t.exc "NoTerm" 7
 have t:=t.exc "NoLabel" 8
 have t:=t.exc "NoBack" 9
 have t:=t.verr
 have t:=t.py .len
 have t:=t.py .range
 have t:=t.py .enum
 have t:=t.py .isin
 have t:=t.py .int
 have t:=t.py .bool
 have t:=t.py .tuple
 have t:=t.py .list
 have t:=t.py .sum
 have t:=t.py .all
 have t:=t.py .any
 have t:=t.py .max
 have t:=t.add "is_whole" (top 13) 142 ["thing"] 1 m_is_whole rfl
 have t:=t.add "is_whole_below" (top 14) 149 ["thing","bound"] 2 m_is_whole_below rfl
 have t:=t.add "are_whole_below" (top 15) 154 ["things","bound"] 2 m_are_whole_below rfl
 have t:=t.add "is_many" (top 16) 161 ["thing"] 1 m_is_many rfl
 have t:=t.add "is_row" (top 17) 168 ["thing","length","bound"] 3 m_is_row rfl
 have t:=t.add "how_many_settings" (top 18) 175 ["many"] 1 m_how_many_settings rfl
 have t:=t.add "setting_at" (top 19) 180 ["many","number"] 2 m_setting_at rfl
 have t:=t.add "how_many_ones" (top 20) 187 ["number"] 1 m_how_many_ones rfl
 have t:=t.add "is_switch" (top 22) 194 ["thing"] 1 m_is_switch rfl
 have t:=t.add "check_switch" (top 23) 201 ["thing"] 1 m_check_switch rfl
 have t:=t.add "check_many" (top 24) 208 ["thing"] 1 m_check_many rfl
 have t:=t.add "ones" (top 25) 213 ["switch"] 1 m_ones rfl
 have t:=t.add "of_ones" (top 26) 218 ["many","numbers"] 2 m_of_ones rfl
 have t:=t.add "is_part" (top 29) 226 ["thing"] 1 m_is_part rfl
 have t:=t.add "is_term" (top 30) 231 ["many","thing"] 2 m_is_term rfl
 have t:=t.add "check_term" (top 31) 238 ["many","thing"] 2 m_check_term rfl
 have t:=t.add "held_at" (top 32) 243 ["term"] 1 m_held_at rfl
 have t:=t.add "of_terms" (top 33) 250 ["many","terms"] 2 m_of_terms rfl
 have t:=t.add "all_terms" (top 34) 255 ["many"] 1 m_all_terms rfl
 have t:=t.add "widened" (top 35) 260 ["term"] 1 m_widened rfl
 have t:=t.add "primes" (top 36) 265 ["switch"] 1 m_primes rfl
 have t:=t.add "essentials" (top 37) 270 ["switch"] 1 m_essentials rfl
 have t:=t.add "odd_within" (top 39) 275 ["many","numbers"] 2 m_odd_within rfl
 have t:=t.add "products" (top 40) 282 ["switch"] 1 m_products rfl
 have t:=t.add "of_products" (top 41) 289 ["many","numbers"] 2 m_of_products rfl
 have t:=t.add "degree" (top 42) 294 ["switch"] 1 m_degree rfl
 have t:=t.add "_law_cell" (top 44) 301 ["_law_script","_law_k"] 2 m_law_cell rfl
 have t:=t.add "_law_pick" (top 45) 308 ["_law_script","_law_k","_law_many"] 3 m_law_pick rfl
 have Fq:=kP (K:=KK w) (x:="_law_class") (qual:="_law_class") (st:=top 46) (f:=315) rfl (by kernel_rfl) (by kernel_rfl)
 have Ft:=kP (K:=KK w) (x:="_law_told") (qual:="_law_told") (st:=top 47) (f:=322) rfl (by kernel_rfl) (by kernel_rfl)
 have hq:=tU (ps:=["_law_kept"]) (n:=1) (F:=m_law_class) t.B t.t Fq rfl (by kernel_rfl)
 have hqb:=Fq.binds (ps:=["_law_kept"]) (by intro _ _ _ _ _ _ us hl;rcases us with _ | ⟨u0,_ | ⟨u1,us⟩⟩<;>first | rfl | (simp at hl))
 have hT:=uA (k:=29) (t:=⟨"_law_deed","e","_law_class","SwitchError"⟩) (kf:=29) Ft (by kernel_rfl) (by kernel_rfl) (PySem.W.mg_of KX GX (by kernel_rfl)) (by kernel_rfl) hq hqb (Nat.le_refl _) (PySem.W.mg_of KX GX (by kernel_rfl)) t.B
 exact uB (tab:=tbL) (fns:=flL) (x:="_law_script") t.B t.t t.u (by kernel_rfl) ⟨rfl,by decide,by decide⟩ ⟨322,_,"_law_deed",PySem.W.mg_of KX GX (by kernel_rfl),by kernel_rfl,hT,fun s u _=> .of_eq rfl⟩ (by decide) hC hB
end SK.k64
open PySem PySem.W PyProof.Rows
set_option maxRecDepth 100000 in
set_option maxHeartbeats 0 in
theorem PySem.Challenge.cw_switchkinds_k64_terms_refused_holds : PySem.Challenge.rw_switchkinds_k64_terms_refused.Holds := by
 w_on;o_law
 refine PySem.W.holds_open (q:=SK.k64.kq) (loose:=[]) (Xt:=fun s=>PySem.W.xlAt SK.k64.kq [] s&&PySem.W.recOk (PySem.W.RowW.records (PySem.W.OpenRow.toRowW PySem.Challenge.rw_switchkinds_k64_terms_refused.row)) s) (XP:=PySem.W.XL SK.k64.kq []) (Yf:=PySem.W.Hook.obs (PySem.W.kHook SK.k64.kK SK.k64.kas (fun _=>by kernel_rfl))) (Ya:=PySem.W.Hook.val (PySem.W.kHook SK.k64.kK SK.k64.kas (fun _=>by kernel_rfl))) (YP:=PySem.W.Hook.says (PySem.W.kHook SK.k64.kK SK.k64.kas (fun _=>by kernel_rfl))) (N:=6254) SK.k64.left (PySem.W.Hook.of (PySem.W.kHook SK.k64.kK SK.k64.kas (fun _=>by kernel_rfl))) (PySem.W.Hook.keeps (PySem.W.kHook SK.k64.kK SK.k64.kas (fun _=>by kernel_rfl))) (fun s e=>PySem.W.xl_of s (Bool.and_eq_true_iff.mp e).1) PySem.W.XL.keeps (by rfl) (by rfl) (by rfl) (fun s e=>PySem.W.recFacts_of (Bool.and_eq_true_iff.mp e).2) (by rfl) (by first | assumption | decide+kernel) (by decide+kernel) ⟨rfl,rfl,rfl,rfl,rfl,by decide+kernel⟩ ?hw ?hc
 (case hw=>w_witness2)
 refine SK.walkT (l:=PySem.Challenge.rw_switchkinds_k64_terms_refused) rfl rfl (fun w h Y=>PySem.W.kIn_of Y) (Option.isSome_iff_exists.mp (by kernel_rfl)) ?F
 case F=>
  intro w mg fa h KX G hmg
  exact SK.k64.all_mk KX G hmg
